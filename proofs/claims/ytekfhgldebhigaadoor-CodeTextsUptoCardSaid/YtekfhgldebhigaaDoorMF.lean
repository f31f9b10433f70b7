/-
  Plain mathematics: what the program lists as read and written is what the specification lists. No program text is reached here.
-/
import Derived.Test.YtekfhgldebhigaaDoorDA
import Derived.Test.YtekfhgldebhigaaDoorME
set_option linter.all false
namespace Go.Proofs.YtekfhgldebhigaaDoor
open Go.RowKit C
/-- What the program lists as read. -/
def srcL (p : Pg) (x : In) : List Int := match rolesP x with
  | [q0, q1, q2] => srcOne p x q0 x.a ++ srcOne p x q1 x.b ++ srcOne p x q2 x.c
  | _ => []
/-- What the program lists as written. -/
def dstL (x : In) : List Int := match rolesP x with
  | [q0, q1, q2] => dstOne q0 x.a ++ dstOne q1 x.b ++ dstOne q2 x.c
  | _ => []
def nonneg (l : List Int) : List Int := l.filter fun x => !decide (x < 0)
theorem mem_nonneg {l : List Int} {n : Int} : n ∈ nonneg l ↔ n ∈ l ∧ 0 ≤ n := by simp [nonneg]
/-- The same list, of what is read. -/
def SameR (p : Pg) (f : Fc) (pc : Nat) (x : In) : Prop := ∀ n, n ∈ nonneg (srcL p x) ↔ n ∈ ((rolesOf x).map rd).flatten ++ more p f pc x
def SameW (x : In) : Prop := ∀ n, n ∈ nonneg (dstL x) ↔ n ∈ ((rolesOf x).map wr).flatten
def AskL (p : Pg) (x : In) : Prop := ∀ q0 q1 q2, rolesP x = [q0, q1, q2] → SrcAsk p x q0 x.a ∧ SrcAsk p x q1 x.b ∧ SrcAsk p x q2 x.c
theorem ask_none {p : Pg} {x : In} {q : UInt8} {v : Int} (h1 : q ≠ 112) (h2 : q ≠ 97) (h3 : q ≠ 110) : SrcAsk p x q v := ⟨fun h => absurd h h1, fun h => absurd h h2, fun h => absurd h h3⟩
theorem up_nonneg {a : Int} {k : Nat} {n : Int} (h : 0 ≤ a) (hn : n ∈ upFrom a k) : 0 ≤ n := by have := up_mem hn; omega
theorem reg_1 {p : Pg} {f : Fc} {x : In} (H : Smooth p f) (hi : instrB p f x = true) (e : x.op = 1) : (∀ pc, SameR p f pc x) ∧ SameW x ∧ AskL p x := by
  have h1 : rolesP x = [100, 105, 45] := by rw [rolesP_in (by omega) (by omega), e]; rfl
  have h2 : roles x.op = [100, 105, 45] := by rw [e]; decide
  obtain ⟨r0, r1, r2, er, _, ha, hb, hc, h24, h25, h38⟩ := instr_parts hi
  rw [h2] at er
  simp only [List.cons.injEq, and_true] at er
  obtain ⟨rfl, rfl, rfl⟩ := er
  have hr := H.reg
  have hpar := H.par x.b
  simp [operandB, C.len] at ha hb hc
  clear h24 h25 h38
  refine ⟨fun pc m => ?_, ?_⟩
  · rw [mem_nonneg]
    unfold srcL rolesOf more
    rw [h1, h2]
    simp [srcOne, rd, e]
    first
      | done
      | omega
      | (by_cases c : 0 ≤ x.a <;> simp [c] <;> omega)
      | (by_cases c : 0 ≤ x.a <;> simp [c]; omega)
  refine ⟨fun m => ?_, ?_⟩
  · rw [mem_nonneg]
    unfold dstL rolesOf
    rw [h1, h2]
    simp [dstOne, wr]
    first
      | done
      | omega
      | (by_cases c : 0 ≤ x.a <;> simp [c] <;> omega)
      | (by_cases c : 0 ≤ x.a <;> by_cases c2 : 0 ≤ x.c <;> simp [c, c2] <;> omega)
  · intro q0 q1 q2 hq
    rw [h1] at hq
    simp only [List.cons.injEq, and_true] at hq
    obtain ⟨rfl, rfl, rfl⟩ := hq
    exact ⟨ask_none (by decide) (by decide) (by decide), ask_none (by decide) (by decide) (by decide), ask_none (by decide) (by decide) (by decide)⟩

theorem reg_2 {p : Pg} {f : Fc} {x : In} (H : Smooth p f) (hi : instrB p f x = true) (e : x.op = 2) : (∀ pc, SameR p f pc x) ∧ SameW x ∧ AskL p x := by
  have h1 : rolesP x = [100, 45, 45] := by rw [rolesP_in (by omega) (by omega), e]; rfl
  have h2 : roles x.op = [100, 45, 45] := by rw [e]; decide
  obtain ⟨r0, r1, r2, er, _, ha, hb, hc, h24, h25, h38⟩ := instr_parts hi
  rw [h2] at er
  simp only [List.cons.injEq, and_true] at er
  obtain ⟨rfl, rfl, rfl⟩ := er
  have hr := H.reg
  have hpar := H.par x.b
  simp [operandB, C.len] at ha hb hc
  clear h24 h25 h38
  refine ⟨fun pc m => ?_, ?_⟩
  · rw [mem_nonneg]
    unfold srcL rolesOf more
    rw [h1, h2]
    simp [srcOne, rd, e]
    first
      | done
      | omega
      | (by_cases c : 0 ≤ x.a <;> simp [c] <;> omega)
      | (by_cases c : 0 ≤ x.a <;> simp [c]; omega)
  refine ⟨fun m => ?_, ?_⟩
  · rw [mem_nonneg]
    unfold dstL rolesOf
    rw [h1, h2]
    simp [dstOne, wr]
    first
      | done
      | omega
      | (by_cases c : 0 ≤ x.a <;> simp [c] <;> omega)
      | (by_cases c : 0 ≤ x.a <;> by_cases c2 : 0 ≤ x.c <;> simp [c, c2] <;> omega)
  · intro q0 q1 q2 hq
    rw [h1] at hq
    simp only [List.cons.injEq, and_true] at hq
    obtain ⟨rfl, rfl, rfl⟩ := hq
    exact ⟨ask_none (by decide) (by decide) (by decide), ask_none (by decide) (by decide) (by decide), ask_none (by decide) (by decide) (by decide)⟩

theorem reg_3 {p : Pg} {f : Fc} {x : In} (H : Smooth p f) (hi : instrB p f x = true) (e : x.op = 3) : (∀ pc, SameR p f pc x) ∧ SameW x ∧ AskL p x := by
  have h1 : rolesP x = [100, 115, 45] := by rw [rolesP_in (by omega) (by omega), e]; rfl
  have h2 : roles x.op = [100, 114, 45] := by rw [e]; decide
  obtain ⟨r0, r1, r2, er, _, ha, hb, hc, h24, h25, h38⟩ := instr_parts hi
  rw [h2] at er
  simp only [List.cons.injEq, and_true] at er
  obtain ⟨rfl, rfl, rfl⟩ := er
  have hr := H.reg
  have hpar := H.par x.b
  simp [operandB, C.len] at ha hb hc
  clear h24 h25 h38
  refine ⟨fun pc m => ?_, ?_⟩
  · rw [mem_nonneg]
    unfold srcL rolesOf more
    rw [h1, h2]
    simp [srcOne, rd, e]
    first
      | done
      | omega
      | (by_cases c : 0 ≤ x.a <;> simp [c] <;> omega)
      | (by_cases c : 0 ≤ x.a <;> simp [c]; omega)
  refine ⟨fun m => ?_, ?_⟩
  · rw [mem_nonneg]
    unfold dstL rolesOf
    rw [h1, h2]
    simp [dstOne, wr]
    first
      | done
      | omega
      | (by_cases c : 0 ≤ x.a <;> simp [c] <;> omega)
      | (by_cases c : 0 ≤ x.a <;> by_cases c2 : 0 ≤ x.c <;> simp [c, c2] <;> omega)
  · intro q0 q1 q2 hq
    rw [h1] at hq
    simp only [List.cons.injEq, and_true] at hq
    obtain ⟨rfl, rfl, rfl⟩ := hq
    exact ⟨ask_none (by decide) (by decide) (by decide), ask_none (by decide) (by decide) (by decide), ask_none (by decide) (by decide) (by decide)⟩

theorem reg_4 {p : Pg} {f : Fc} {x : In} (H : Smooth p f) (hi : instrB p f x = true) (e : x.op = 4) : (∀ pc, SameR p f pc x) ∧ SameW x ∧ AskL p x := by
  have h1 : rolesP x = [100, 115, 115] := by rw [rolesP_in (by omega) (by omega), e]; rfl
  have h2 : roles x.op = [100, 114, 114] := by rw [e]; decide
  obtain ⟨r0, r1, r2, er, _, ha, hb, hc, h24, h25, h38⟩ := instr_parts hi
  rw [h2] at er
  simp only [List.cons.injEq, and_true] at er
  obtain ⟨rfl, rfl, rfl⟩ := er
  have hr := H.reg
  have hpar := H.par x.b
  simp [operandB, C.len] at ha hb hc
  clear h24 h25 h38
  refine ⟨fun pc m => ?_, ?_⟩
  · rw [mem_nonneg]
    unfold srcL rolesOf more
    rw [h1, h2]
    simp [srcOne, rd, e]
    first
      | done
      | omega
      | (by_cases c : 0 ≤ x.a <;> simp [c] <;> omega)
      | (by_cases c : 0 ≤ x.a <;> simp [c]; omega)
  refine ⟨fun m => ?_, ?_⟩
  · rw [mem_nonneg]
    unfold dstL rolesOf
    rw [h1, h2]
    simp [dstOne, wr]
    first
      | done
      | omega
      | (by_cases c : 0 ≤ x.a <;> simp [c] <;> omega)
      | (by_cases c : 0 ≤ x.a <;> by_cases c2 : 0 ≤ x.c <;> simp [c, c2] <;> omega)
  · intro q0 q1 q2 hq
    rw [h1] at hq
    simp only [List.cons.injEq, and_true] at hq
    obtain ⟨rfl, rfl, rfl⟩ := hq
    exact ⟨ask_none (by decide) (by decide) (by decide), ask_none (by decide) (by decide) (by decide), ask_none (by decide) (by decide) (by decide)⟩

theorem reg_5 {p : Pg} {f : Fc} {x : In} (H : Smooth p f) (hi : instrB p f x = true) (e : x.op = 5) : (∀ pc, SameR p f pc x) ∧ SameW x ∧ AskL p x := by
  have h1 : rolesP x = [100, 115, 115] := by rw [rolesP_in (by omega) (by omega), e]; rfl
  have h2 : roles x.op = [100, 114, 114] := by rw [e]; decide
  obtain ⟨r0, r1, r2, er, _, ha, hb, hc, h24, h25, h38⟩ := instr_parts hi
  rw [h2] at er
  simp only [List.cons.injEq, and_true] at er
  obtain ⟨rfl, rfl, rfl⟩ := er
  have hr := H.reg
  have hpar := H.par x.b
  simp [operandB, C.len] at ha hb hc
  clear h24 h25 h38
  refine ⟨fun pc m => ?_, ?_⟩
  · rw [mem_nonneg]
    unfold srcL rolesOf more
    rw [h1, h2]
    simp [srcOne, rd, e]
    first
      | done
      | omega
      | (by_cases c : 0 ≤ x.a <;> simp [c] <;> omega)
      | (by_cases c : 0 ≤ x.a <;> simp [c]; omega)
  refine ⟨fun m => ?_, ?_⟩
  · rw [mem_nonneg]
    unfold dstL rolesOf
    rw [h1, h2]
    simp [dstOne, wr]
    first
      | done
      | omega
      | (by_cases c : 0 ≤ x.a <;> simp [c] <;> omega)
      | (by_cases c : 0 ≤ x.a <;> by_cases c2 : 0 ≤ x.c <;> simp [c, c2] <;> omega)
  · intro q0 q1 q2 hq
    rw [h1] at hq
    simp only [List.cons.injEq, and_true] at hq
    obtain ⟨rfl, rfl, rfl⟩ := hq
    exact ⟨ask_none (by decide) (by decide) (by decide), ask_none (by decide) (by decide) (by decide), ask_none (by decide) (by decide) (by decide)⟩

theorem reg_6 {p : Pg} {f : Fc} {x : In} (H : Smooth p f) (hi : instrB p f x = true) (e : x.op = 6) : (∀ pc, SameR p f pc x) ∧ SameW x ∧ AskL p x := by
  have h1 : rolesP x = [100, 115, 115] := by rw [rolesP_in (by omega) (by omega), e]; rfl
  have h2 : roles x.op = [100, 114, 114] := by rw [e]; decide
  obtain ⟨r0, r1, r2, er, _, ha, hb, hc, h24, h25, h38⟩ := instr_parts hi
  rw [h2] at er
  simp only [List.cons.injEq, and_true] at er
  obtain ⟨rfl, rfl, rfl⟩ := er
  have hr := H.reg
  have hpar := H.par x.b
  simp [operandB, C.len] at ha hb hc
  clear h24 h25 h38
  refine ⟨fun pc m => ?_, ?_⟩
  · rw [mem_nonneg]
    unfold srcL rolesOf more
    rw [h1, h2]
    simp [srcOne, rd, e]
    first
      | done
      | omega
      | (by_cases c : 0 ≤ x.a <;> simp [c] <;> omega)
      | (by_cases c : 0 ≤ x.a <;> simp [c]; omega)
  refine ⟨fun m => ?_, ?_⟩
  · rw [mem_nonneg]
    unfold dstL rolesOf
    rw [h1, h2]
    simp [dstOne, wr]
    first
      | done
      | omega
      | (by_cases c : 0 ≤ x.a <;> simp [c] <;> omega)
      | (by_cases c : 0 ≤ x.a <;> by_cases c2 : 0 ≤ x.c <;> simp [c, c2] <;> omega)
  · intro q0 q1 q2 hq
    rw [h1] at hq
    simp only [List.cons.injEq, and_true] at hq
    obtain ⟨rfl, rfl, rfl⟩ := hq
    exact ⟨ask_none (by decide) (by decide) (by decide), ask_none (by decide) (by decide) (by decide), ask_none (by decide) (by decide) (by decide)⟩

theorem reg_7 {p : Pg} {f : Fc} {x : In} (H : Smooth p f) (hi : instrB p f x = true) (e : x.op = 7) : (∀ pc, SameR p f pc x) ∧ SameW x ∧ AskL p x := by
  have h1 : rolesP x = [100, 115, 115] := by rw [rolesP_in (by omega) (by omega), e]; rfl
  have h2 : roles x.op = [100, 114, 114] := by rw [e]; decide
  obtain ⟨r0, r1, r2, er, _, ha, hb, hc, h24, h25, h38⟩ := instr_parts hi
  rw [h2] at er
  simp only [List.cons.injEq, and_true] at er
  obtain ⟨rfl, rfl, rfl⟩ := er
  have hr := H.reg
  have hpar := H.par x.b
  simp [operandB, C.len] at ha hb hc
  clear h24 h25 h38
  refine ⟨fun pc m => ?_, ?_⟩
  · rw [mem_nonneg]
    unfold srcL rolesOf more
    rw [h1, h2]
    simp [srcOne, rd, e]
    first
      | done
      | omega
      | (by_cases c : 0 ≤ x.a <;> simp [c] <;> omega)
      | (by_cases c : 0 ≤ x.a <;> simp [c]; omega)
  refine ⟨fun m => ?_, ?_⟩
  · rw [mem_nonneg]
    unfold dstL rolesOf
    rw [h1, h2]
    simp [dstOne, wr]
    first
      | done
      | omega
      | (by_cases c : 0 ≤ x.a <;> simp [c] <;> omega)
      | (by_cases c : 0 ≤ x.a <;> by_cases c2 : 0 ≤ x.c <;> simp [c, c2] <;> omega)
  · intro q0 q1 q2 hq
    rw [h1] at hq
    simp only [List.cons.injEq, and_true] at hq
    obtain ⟨rfl, rfl, rfl⟩ := hq
    exact ⟨ask_none (by decide) (by decide) (by decide), ask_none (by decide) (by decide) (by decide), ask_none (by decide) (by decide) (by decide)⟩

theorem reg_8 {p : Pg} {f : Fc} {x : In} (H : Smooth p f) (hi : instrB p f x = true) (e : x.op = 8) : (∀ pc, SameR p f pc x) ∧ SameW x ∧ AskL p x := by
  have h1 : rolesP x = [100, 115, 115] := by rw [rolesP_in (by omega) (by omega), e]; rfl
  have h2 : roles x.op = [100, 114, 114] := by rw [e]; decide
  obtain ⟨r0, r1, r2, er, _, ha, hb, hc, h24, h25, h38⟩ := instr_parts hi
  rw [h2] at er
  simp only [List.cons.injEq, and_true] at er
  obtain ⟨rfl, rfl, rfl⟩ := er
  have hr := H.reg
  have hpar := H.par x.b
  simp [operandB, C.len] at ha hb hc
  clear h24 h25 h38
  refine ⟨fun pc m => ?_, ?_⟩
  · rw [mem_nonneg]
    unfold srcL rolesOf more
    rw [h1, h2]
    simp [srcOne, rd, e]
    first
      | done
      | omega
      | (by_cases c : 0 ≤ x.a <;> simp [c] <;> omega)
      | (by_cases c : 0 ≤ x.a <;> simp [c]; omega)
  refine ⟨fun m => ?_, ?_⟩
  · rw [mem_nonneg]
    unfold dstL rolesOf
    rw [h1, h2]
    simp [dstOne, wr]
    first
      | done
      | omega
      | (by_cases c : 0 ≤ x.a <;> simp [c] <;> omega)
      | (by_cases c : 0 ≤ x.a <;> by_cases c2 : 0 ≤ x.c <;> simp [c, c2] <;> omega)
  · intro q0 q1 q2 hq
    rw [h1] at hq
    simp only [List.cons.injEq, and_true] at hq
    obtain ⟨rfl, rfl, rfl⟩ := hq
    exact ⟨ask_none (by decide) (by decide) (by decide), ask_none (by decide) (by decide) (by decide), ask_none (by decide) (by decide) (by decide)⟩

theorem reg_9 {p : Pg} {f : Fc} {x : In} (H : Smooth p f) (hi : instrB p f x = true) (e : x.op = 9) : (∀ pc, SameR p f pc x) ∧ SameW x ∧ AskL p x := by
  have h1 : rolesP x = [100, 115, 45] := by rw [rolesP_in (by omega) (by omega), e]; rfl
  have h2 : roles x.op = [100, 114, 45] := by rw [e]; decide
  obtain ⟨r0, r1, r2, er, _, ha, hb, hc, h24, h25, h38⟩ := instr_parts hi
  rw [h2] at er
  simp only [List.cons.injEq, and_true] at er
  obtain ⟨rfl, rfl, rfl⟩ := er
  have hr := H.reg
  have hpar := H.par x.b
  simp [operandB, C.len] at ha hb hc
  clear h24 h25 h38
  refine ⟨fun pc m => ?_, ?_⟩
  · rw [mem_nonneg]
    unfold srcL rolesOf more
    rw [h1, h2]
    simp [srcOne, rd, e]
    first
      | done
      | omega
      | (by_cases c : 0 ≤ x.a <;> simp [c] <;> omega)
      | (by_cases c : 0 ≤ x.a <;> simp [c]; omega)
  refine ⟨fun m => ?_, ?_⟩
  · rw [mem_nonneg]
    unfold dstL rolesOf
    rw [h1, h2]
    simp [dstOne, wr]
    first
      | done
      | omega
      | (by_cases c : 0 ≤ x.a <;> simp [c] <;> omega)
      | (by_cases c : 0 ≤ x.a <;> by_cases c2 : 0 ≤ x.c <;> simp [c, c2] <;> omega)
  · intro q0 q1 q2 hq
    rw [h1] at hq
    simp only [List.cons.injEq, and_true] at hq
    obtain ⟨rfl, rfl, rfl⟩ := hq
    exact ⟨ask_none (by decide) (by decide) (by decide), ask_none (by decide) (by decide) (by decide), ask_none (by decide) (by decide) (by decide)⟩

theorem reg_10 {p : Pg} {f : Fc} {x : In} (H : Smooth p f) (hi : instrB p f x = true) (e : x.op = 10) : (∀ pc, SameR p f pc x) ∧ SameW x ∧ AskL p x := by
  have h1 : rolesP x = [100, 115, 45] := by rw [rolesP_in (by omega) (by omega), e]; rfl
  have h2 : roles x.op = [100, 114, 45] := by rw [e]; decide
  obtain ⟨r0, r1, r2, er, _, ha, hb, hc, h24, h25, h38⟩ := instr_parts hi
  rw [h2] at er
  simp only [List.cons.injEq, and_true] at er
  obtain ⟨rfl, rfl, rfl⟩ := er
  have hr := H.reg
  have hpar := H.par x.b
  simp [operandB, C.len] at ha hb hc
  clear h24 h25 h38
  refine ⟨fun pc m => ?_, ?_⟩
  · rw [mem_nonneg]
    unfold srcL rolesOf more
    rw [h1, h2]
    simp [srcOne, rd, e]
    first
      | done
      | omega
      | (by_cases c : 0 ≤ x.a <;> simp [c] <;> omega)
      | (by_cases c : 0 ≤ x.a <;> simp [c]; omega)
  refine ⟨fun m => ?_, ?_⟩
  · rw [mem_nonneg]
    unfold dstL rolesOf
    rw [h1, h2]
    simp [dstOne, wr]
    first
      | done
      | omega
      | (by_cases c : 0 ≤ x.a <;> simp [c] <;> omega)
      | (by_cases c : 0 ≤ x.a <;> by_cases c2 : 0 ≤ x.c <;> simp [c, c2] <;> omega)
  · intro q0 q1 q2 hq
    rw [h1] at hq
    simp only [List.cons.injEq, and_true] at hq
    obtain ⟨rfl, rfl, rfl⟩ := hq
    exact ⟨ask_none (by decide) (by decide) (by decide), ask_none (by decide) (by decide) (by decide), ask_none (by decide) (by decide) (by decide)⟩

theorem reg_11 {p : Pg} {f : Fc} {x : In} (H : Smooth p f) (hi : instrB p f x = true) (e : x.op = 11) : (∀ pc, SameR p f pc x) ∧ SameW x ∧ AskL p x := by
  have h1 : rolesP x = [100, 115, 115] := by rw [rolesP_in (by omega) (by omega), e]; rfl
  have h2 : roles x.op = [100, 114, 114] := by rw [e]; decide
  obtain ⟨r0, r1, r2, er, _, ha, hb, hc, h24, h25, h38⟩ := instr_parts hi
  rw [h2] at er
  simp only [List.cons.injEq, and_true] at er
  obtain ⟨rfl, rfl, rfl⟩ := er
  have hr := H.reg
  have hpar := H.par x.b
  simp [operandB, C.len] at ha hb hc
  clear h24 h25 h38
  refine ⟨fun pc m => ?_, ?_⟩
  · rw [mem_nonneg]
    unfold srcL rolesOf more
    rw [h1, h2]
    simp [srcOne, rd, e]
    first
      | done
      | omega
      | (by_cases c : 0 ≤ x.a <;> simp [c] <;> omega)
      | (by_cases c : 0 ≤ x.a <;> simp [c]; omega)
  refine ⟨fun m => ?_, ?_⟩
  · rw [mem_nonneg]
    unfold dstL rolesOf
    rw [h1, h2]
    simp [dstOne, wr]
    first
      | done
      | omega
      | (by_cases c : 0 ≤ x.a <;> simp [c] <;> omega)
      | (by_cases c : 0 ≤ x.a <;> by_cases c2 : 0 ≤ x.c <;> simp [c, c2] <;> omega)
  · intro q0 q1 q2 hq
    rw [h1] at hq
    simp only [List.cons.injEq, and_true] at hq
    obtain ⟨rfl, rfl, rfl⟩ := hq
    exact ⟨ask_none (by decide) (by decide) (by decide), ask_none (by decide) (by decide) (by decide), ask_none (by decide) (by decide) (by decide)⟩

theorem reg_12 {p : Pg} {f : Fc} {x : In} (H : Smooth p f) (hi : instrB p f x = true) (e : x.op = 12) : (∀ pc, SameR p f pc x) ∧ SameW x ∧ AskL p x := by
  have h1 : rolesP x = [100, 115, 115] := by rw [rolesP_in (by omega) (by omega), e]; rfl
  have h2 : roles x.op = [100, 114, 114] := by rw [e]; decide
  obtain ⟨r0, r1, r2, er, _, ha, hb, hc, h24, h25, h38⟩ := instr_parts hi
  rw [h2] at er
  simp only [List.cons.injEq, and_true] at er
  obtain ⟨rfl, rfl, rfl⟩ := er
  have hr := H.reg
  have hpar := H.par x.b
  simp [operandB, C.len] at ha hb hc
  clear h24 h25 h38
  refine ⟨fun pc m => ?_, ?_⟩
  · rw [mem_nonneg]
    unfold srcL rolesOf more
    rw [h1, h2]
    simp [srcOne, rd, e]
    first
      | done
      | omega
      | (by_cases c : 0 ≤ x.a <;> simp [c] <;> omega)
      | (by_cases c : 0 ≤ x.a <;> simp [c]; omega)
  refine ⟨fun m => ?_, ?_⟩
  · rw [mem_nonneg]
    unfold dstL rolesOf
    rw [h1, h2]
    simp [dstOne, wr]
    first
      | done
      | omega
      | (by_cases c : 0 ≤ x.a <;> simp [c] <;> omega)
      | (by_cases c : 0 ≤ x.a <;> by_cases c2 : 0 ≤ x.c <;> simp [c, c2] <;> omega)
  · intro q0 q1 q2 hq
    rw [h1] at hq
    simp only [List.cons.injEq, and_true] at hq
    obtain ⟨rfl, rfl, rfl⟩ := hq
    exact ⟨ask_none (by decide) (by decide) (by decide), ask_none (by decide) (by decide) (by decide), ask_none (by decide) (by decide) (by decide)⟩

theorem reg_13 {p : Pg} {f : Fc} {x : In} (H : Smooth p f) (hi : instrB p f x = true) (e : x.op = 13) : (∀ pc, SameR p f pc x) ∧ SameW x ∧ AskL p x := by
  have h1 : rolesP x = [100, 115, 115] := by rw [rolesP_in (by omega) (by omega), e]; rfl
  have h2 : roles x.op = [100, 114, 114] := by rw [e]; decide
  obtain ⟨r0, r1, r2, er, _, ha, hb, hc, h24, h25, h38⟩ := instr_parts hi
  rw [h2] at er
  simp only [List.cons.injEq, and_true] at er
  obtain ⟨rfl, rfl, rfl⟩ := er
  have hr := H.reg
  have hpar := H.par x.b
  simp [operandB, C.len] at ha hb hc
  clear h24 h25 h38
  refine ⟨fun pc m => ?_, ?_⟩
  · rw [mem_nonneg]
    unfold srcL rolesOf more
    rw [h1, h2]
    simp [srcOne, rd, e]
    first
      | done
      | omega
      | (by_cases c : 0 ≤ x.a <;> simp [c] <;> omega)
      | (by_cases c : 0 ≤ x.a <;> simp [c]; omega)
  refine ⟨fun m => ?_, ?_⟩
  · rw [mem_nonneg]
    unfold dstL rolesOf
    rw [h1, h2]
    simp [dstOne, wr]
    first
      | done
      | omega
      | (by_cases c : 0 ≤ x.a <;> simp [c] <;> omega)
      | (by_cases c : 0 ≤ x.a <;> by_cases c2 : 0 ≤ x.c <;> simp [c, c2] <;> omega)
  · intro q0 q1 q2 hq
    rw [h1] at hq
    simp only [List.cons.injEq, and_true] at hq
    obtain ⟨rfl, rfl, rfl⟩ := hq
    exact ⟨ask_none (by decide) (by decide) (by decide), ask_none (by decide) (by decide) (by decide), ask_none (by decide) (by decide) (by decide)⟩

theorem reg_14 {p : Pg} {f : Fc} {x : In} (H : Smooth p f) (hi : instrB p f x = true) (e : x.op = 14) : (∀ pc, SameR p f pc x) ∧ SameW x ∧ AskL p x := by
  have h1 : rolesP x = [100, 115, 115] := by rw [rolesP_in (by omega) (by omega), e]; rfl
  have h2 : roles x.op = [100, 114, 114] := by rw [e]; decide
  obtain ⟨r0, r1, r2, er, _, ha, hb, hc, h24, h25, h38⟩ := instr_parts hi
  rw [h2] at er
  simp only [List.cons.injEq, and_true] at er
  obtain ⟨rfl, rfl, rfl⟩ := er
  have hr := H.reg
  have hpar := H.par x.b
  simp [operandB, C.len] at ha hb hc
  clear h24 h25 h38
  refine ⟨fun pc m => ?_, ?_⟩
  · rw [mem_nonneg]
    unfold srcL rolesOf more
    rw [h1, h2]
    simp [srcOne, rd, e]
    first
      | done
      | omega
      | (by_cases c : 0 ≤ x.a <;> simp [c] <;> omega)
      | (by_cases c : 0 ≤ x.a <;> simp [c]; omega)
  refine ⟨fun m => ?_, ?_⟩
  · rw [mem_nonneg]
    unfold dstL rolesOf
    rw [h1, h2]
    simp [dstOne, wr]
    first
      | done
      | omega
      | (by_cases c : 0 ≤ x.a <;> simp [c] <;> omega)
      | (by_cases c : 0 ≤ x.a <;> by_cases c2 : 0 ≤ x.c <;> simp [c, c2] <;> omega)
  · intro q0 q1 q2 hq
    rw [h1] at hq
    simp only [List.cons.injEq, and_true] at hq
    obtain ⟨rfl, rfl, rfl⟩ := hq
    exact ⟨ask_none (by decide) (by decide) (by decide), ask_none (by decide) (by decide) (by decide), ask_none (by decide) (by decide) (by decide)⟩

theorem reg_15 {p : Pg} {f : Fc} {x : In} (H : Smooth p f) (hi : instrB p f x = true) (e : x.op = 15) : (∀ pc, SameR p f pc x) ∧ SameW x ∧ AskL p x := by
  have h1 : rolesP x = [100, 115, 45] := by rw [rolesP_in (by omega) (by omega), e]; rfl
  have h2 : roles x.op = [100, 114, 45] := by rw [e]; decide
  obtain ⟨r0, r1, r2, er, _, ha, hb, hc, h24, h25, h38⟩ := instr_parts hi
  rw [h2] at er
  simp only [List.cons.injEq, and_true] at er
  obtain ⟨rfl, rfl, rfl⟩ := er
  have hr := H.reg
  have hpar := H.par x.b
  simp [operandB, C.len] at ha hb hc
  clear h24 h25 h38
  refine ⟨fun pc m => ?_, ?_⟩
  · rw [mem_nonneg]
    unfold srcL rolesOf more
    rw [h1, h2]
    simp [srcOne, rd, e]
    first
      | done
      | omega
      | (by_cases c : 0 ≤ x.a <;> simp [c] <;> omega)
      | (by_cases c : 0 ≤ x.a <;> simp [c]; omega)
  refine ⟨fun m => ?_, ?_⟩
  · rw [mem_nonneg]
    unfold dstL rolesOf
    rw [h1, h2]
    simp [dstOne, wr]
    first
      | done
      | omega
      | (by_cases c : 0 ≤ x.a <;> simp [c] <;> omega)
      | (by_cases c : 0 ≤ x.a <;> by_cases c2 : 0 ≤ x.c <;> simp [c, c2] <;> omega)
  · intro q0 q1 q2 hq
    rw [h1] at hq
    simp only [List.cons.injEq, and_true] at hq
    obtain ⟨rfl, rfl, rfl⟩ := hq
    exact ⟨ask_none (by decide) (by decide) (by decide), ask_none (by decide) (by decide) (by decide), ask_none (by decide) (by decide) (by decide)⟩

theorem reg_16 {p : Pg} {f : Fc} {x : In} (H : Smooth p f) (hi : instrB p f x = true) (e : x.op = 16) : (∀ pc, SameR p f pc x) ∧ SameW x ∧ AskL p x := by
  have h1 : rolesP x = [45, 45, 116] := by rw [rolesP_in (by omega) (by omega), e]; rfl
  have h2 : roles x.op = [45, 45, 106] := by rw [e]; decide
  obtain ⟨r0, r1, r2, er, _, ha, hb, hc, h24, h25, h38⟩ := instr_parts hi
  rw [h2] at er
  simp only [List.cons.injEq, and_true] at er
  obtain ⟨rfl, rfl, rfl⟩ := er
  have hr := H.reg
  have hpar := H.par x.b
  simp [operandB, C.len] at ha hb hc
  clear h24 h25 h38
  refine ⟨fun pc m => ?_, ?_⟩
  · rw [mem_nonneg]
    unfold srcL rolesOf more
    rw [h1, h2]
    simp [srcOne, rd, e]
    first
      | done
      | omega
      | (by_cases c : 0 ≤ x.a <;> simp [c] <;> omega)
      | (by_cases c : 0 ≤ x.a <;> simp [c]; omega)
  refine ⟨fun m => ?_, ?_⟩
  · rw [mem_nonneg]
    unfold dstL rolesOf
    rw [h1, h2]
    simp [dstOne, wr]
    first
      | done
      | omega
      | (by_cases c : 0 ≤ x.a <;> simp [c] <;> omega)
      | (by_cases c : 0 ≤ x.a <;> by_cases c2 : 0 ≤ x.c <;> simp [c, c2] <;> omega)
  · intro q0 q1 q2 hq
    rw [h1] at hq
    simp only [List.cons.injEq, and_true] at hq
    obtain ⟨rfl, rfl, rfl⟩ := hq
    exact ⟨ask_none (by decide) (by decide) (by decide), ask_none (by decide) (by decide) (by decide), ask_none (by decide) (by decide) (by decide)⟩

theorem reg_17 {p : Pg} {f : Fc} {x : In} (H : Smooth p f) (hi : instrB p f x = true) (e : x.op = 17) : (∀ pc, SameR p f pc x) ∧ SameW x ∧ AskL p x := by
  have h1 : rolesP x = [115, 45, 116] := by rw [rolesP_in (by omega) (by omega), e]; rfl
  have h2 : roles x.op = [114, 45, 106] := by rw [e]; decide
  obtain ⟨r0, r1, r2, er, _, ha, hb, hc, h24, h25, h38⟩ := instr_parts hi
  rw [h2] at er
  simp only [List.cons.injEq, and_true] at er
  obtain ⟨rfl, rfl, rfl⟩ := er
  have hr := H.reg
  have hpar := H.par x.b
  simp [operandB, C.len] at ha hb hc
  clear h24 h25 h38
  refine ⟨fun pc m => ?_, ?_⟩
  · rw [mem_nonneg]
    unfold srcL rolesOf more
    rw [h1, h2]
    simp [srcOne, rd, e]
    first
      | done
      | omega
      | (by_cases c : 0 ≤ x.a <;> simp [c] <;> omega)
      | (by_cases c : 0 ≤ x.a <;> simp [c]; omega)
  refine ⟨fun m => ?_, ?_⟩
  · rw [mem_nonneg]
    unfold dstL rolesOf
    rw [h1, h2]
    simp [dstOne, wr]
    first
      | done
      | omega
      | (by_cases c : 0 ≤ x.a <;> simp [c] <;> omega)
      | (by_cases c : 0 ≤ x.a <;> by_cases c2 : 0 ≤ x.c <;> simp [c, c2] <;> omega)
  · intro q0 q1 q2 hq
    rw [h1] at hq
    simp only [List.cons.injEq, and_true] at hq
    obtain ⟨rfl, rfl, rfl⟩ := hq
    exact ⟨ask_none (by decide) (by decide) (by decide), ask_none (by decide) (by decide) (by decide), ask_none (by decide) (by decide) (by decide)⟩

theorem reg_18 {p : Pg} {f : Fc} {x : In} (H : Smooth p f) (hi : instrB p f x = true) (e : x.op = 18) : (∀ pc, SameR p f pc x) ∧ SameW x ∧ AskL p x := by
  have h1 : rolesP x = [100, 103, 45] := by rw [rolesP_in (by omega) (by omega), e]; rfl
  have h2 : roles x.op = [100, 103, 45] := by rw [e]; decide
  obtain ⟨r0, r1, r2, er, _, ha, hb, hc, h24, h25, h38⟩ := instr_parts hi
  rw [h2] at er
  simp only [List.cons.injEq, and_true] at er
  obtain ⟨rfl, rfl, rfl⟩ := er
  have hr := H.reg
  have hpar := H.par x.b
  simp [operandB, C.len] at ha hb hc
  clear h24 h25 h38
  refine ⟨fun pc m => ?_, ?_⟩
  · rw [mem_nonneg]
    unfold srcL rolesOf more
    rw [h1, h2]
    simp [srcOne, rd, e]
    first
      | done
      | omega
      | (by_cases c : 0 ≤ x.a <;> simp [c] <;> omega)
      | (by_cases c : 0 ≤ x.a <;> simp [c]; omega)
  refine ⟨fun m => ?_, ?_⟩
  · rw [mem_nonneg]
    unfold dstL rolesOf
    rw [h1, h2]
    simp [dstOne, wr]
    first
      | done
      | omega
      | (by_cases c : 0 ≤ x.a <;> simp [c] <;> omega)
      | (by_cases c : 0 ≤ x.a <;> by_cases c2 : 0 ≤ x.c <;> simp [c, c2] <;> omega)
  · intro q0 q1 q2 hq
    rw [h1] at hq
    simp only [List.cons.injEq, and_true] at hq
    obtain ⟨rfl, rfl, rfl⟩ := hq
    exact ⟨ask_none (by decide) (by decide) (by decide), ask_none (by decide) (by decide) (by decide), ask_none (by decide) (by decide) (by decide)⟩

theorem reg_19 {p : Pg} {f : Fc} {x : In} (H : Smooth p f) (hi : instrB p f x = true) (e : x.op = 19) : (∀ pc, SameR p f pc x) ∧ SameW x ∧ AskL p x := by
  have h1 : rolesP x = [100, 115, 111] := by rw [rolesP_in (by omega) (by omega), e]; rfl
  have h2 : roles x.op = [100, 114, 110] := by rw [e]; decide
  obtain ⟨r0, r1, r2, er, _, ha, hb, hc, h24, h25, h38⟩ := instr_parts hi
  rw [h2] at er
  simp only [List.cons.injEq, and_true] at er
  obtain ⟨rfl, rfl, rfl⟩ := er
  have hr := H.reg
  have hpar := H.par x.b
  simp [operandB, C.len] at ha hb hc
  clear h24 h25 h38
  refine ⟨fun pc m => ?_, ?_⟩
  · rw [mem_nonneg]
    unfold srcL rolesOf more
    rw [h1, h2]
    simp [srcOne, rd, e]
    first
      | done
      | omega
      | (by_cases c : 0 ≤ x.a <;> simp [c] <;> omega)
      | (by_cases c : 0 ≤ x.a <;> simp [c]; omega)
  refine ⟨fun m => ?_, ?_⟩
  · rw [mem_nonneg]
    unfold dstL rolesOf
    rw [h1, h2]
    simp [dstOne, wr]
    first
      | done
      | omega
      | (by_cases c : 0 ≤ x.a <;> simp [c] <;> omega)
      | (by_cases c : 0 ≤ x.a <;> by_cases c2 : 0 ≤ x.c <;> simp [c, c2] <;> omega)
  · intro q0 q1 q2 hq
    rw [h1] at hq
    simp only [List.cons.injEq, and_true] at hq
    obtain ⟨rfl, rfl, rfl⟩ := hq
    exact ⟨ask_none (by decide) (by decide) (by decide), ask_none (by decide) (by decide) (by decide), ask_none (by decide) (by decide) (by decide)⟩

theorem reg_20 {p : Pg} {f : Fc} {x : In} (H : Smooth p f) (hi : instrB p f x = true) (e : x.op = 20) : (∀ pc, SameR p f pc x) ∧ SameW x ∧ AskL p x := by
  have h1 : rolesP x = [100, 115, 115] := by rw [rolesP_in (by omega) (by omega), e]; rfl
  have h2 : roles x.op = [100, 114, 114] := by rw [e]; decide
  obtain ⟨r0, r1, r2, er, _, ha, hb, hc, h24, h25, h38⟩ := instr_parts hi
  rw [h2] at er
  simp only [List.cons.injEq, and_true] at er
  obtain ⟨rfl, rfl, rfl⟩ := er
  have hr := H.reg
  have hpar := H.par x.b
  simp [operandB, C.len] at ha hb hc
  clear h24 h25 h38
  refine ⟨fun pc m => ?_, ?_⟩
  · rw [mem_nonneg]
    unfold srcL rolesOf more
    rw [h1, h2]
    simp [srcOne, rd, e]
    first
      | done
      | omega
      | (by_cases c : 0 ≤ x.a <;> simp [c] <;> omega)
      | (by_cases c : 0 ≤ x.a <;> simp [c]; omega)
  refine ⟨fun m => ?_, ?_⟩
  · rw [mem_nonneg]
    unfold dstL rolesOf
    rw [h1, h2]
    simp [dstOne, wr]
    first
      | done
      | omega
      | (by_cases c : 0 ≤ x.a <;> simp [c] <;> omega)
      | (by_cases c : 0 ≤ x.a <;> by_cases c2 : 0 ≤ x.c <;> simp [c, c2] <;> omega)
  · intro q0 q1 q2 hq
    rw [h1] at hq
    simp only [List.cons.injEq, and_true] at hq
    obtain ⟨rfl, rfl, rfl⟩ := hq
    exact ⟨ask_none (by decide) (by decide) (by decide), ask_none (by decide) (by decide) (by decide), ask_none (by decide) (by decide) (by decide)⟩

theorem reg_21 {p : Pg} {f : Fc} {x : In} (H : Smooth p f) (hi : instrB p f x = true) (e : x.op = 21) : (∀ pc, SameR p f pc x) ∧ SameW x ∧ AskL p x := by
  have h1 : rolesP x = [100, 108, 45] := by rw [rolesP_in (by omega) (by omega), e]; rfl
  have h2 : roles x.op = [100, 108, 45] := by rw [e]; decide
  obtain ⟨r0, r1, r2, er, _, ha, hb, hc, h24, h25, h38⟩ := instr_parts hi
  rw [h2] at er
  simp only [List.cons.injEq, and_true] at er
  obtain ⟨rfl, rfl, rfl⟩ := er
  have hr := H.reg
  have hpar := H.par x.b
  simp [operandB, C.len] at ha hb hc
  clear h24 h25 h38
  refine ⟨fun pc m => ?_, ?_⟩
  · rw [mem_nonneg]
    unfold srcL rolesOf more
    rw [h1, h2]
    simp [srcOne, rd, e]
    first
      | done
      | omega
      | (by_cases c : 0 ≤ x.a <;> simp [c] <;> omega)
      | (by_cases c : 0 ≤ x.a <;> simp [c]; omega)
  refine ⟨fun m => ?_, ?_⟩
  · rw [mem_nonneg]
    unfold dstL rolesOf
    rw [h1, h2]
    simp [dstOne, wr]
    first
      | done
      | omega
      | (by_cases c : 0 ≤ x.a <;> simp [c] <;> omega)
      | (by_cases c : 0 ≤ x.a <;> by_cases c2 : 0 ≤ x.c <;> simp [c, c2] <;> omega)
  · intro q0 q1 q2 hq
    rw [h1] at hq
    simp only [List.cons.injEq, and_true] at hq
    obtain ⟨rfl, rfl, rfl⟩ := hq
    exact ⟨ask_none (by decide) (by decide) (by decide), ask_none (by decide) (by decide) (by decide), ask_none (by decide) (by decide) (by decide)⟩

theorem reg_22 {p : Pg} {f : Fc} {x : In} (H : Smooth p f) (hi : instrB p f x = true) (e : x.op = 22) : (∀ pc, SameR p f pc x) ∧ SameW x ∧ AskL p x := by
  have h1 : rolesP x = [100, 115, 45] := by rw [rolesP_in (by omega) (by omega), e]; rfl
  have h2 : roles x.op = [100, 114, 45] := by rw [e]; decide
  obtain ⟨r0, r1, r2, er, _, ha, hb, hc, h24, h25, h38⟩ := instr_parts hi
  rw [h2] at er
  simp only [List.cons.injEq, and_true] at er
  obtain ⟨rfl, rfl, rfl⟩ := er
  have hr := H.reg
  have hpar := H.par x.b
  simp [operandB, C.len] at ha hb hc
  clear h24 h25 h38
  refine ⟨fun pc m => ?_, ?_⟩
  · rw [mem_nonneg]
    unfold srcL rolesOf more
    rw [h1, h2]
    simp [srcOne, rd, e]
    first
      | done
      | omega
      | (by_cases c : 0 ≤ x.a <;> simp [c] <;> omega)
      | (by_cases c : 0 ≤ x.a <;> simp [c]; omega)
  refine ⟨fun m => ?_, ?_⟩
  · rw [mem_nonneg]
    unfold dstL rolesOf
    rw [h1, h2]
    simp [dstOne, wr]
    first
      | done
      | omega
      | (by_cases c : 0 ≤ x.a <;> simp [c] <;> omega)
      | (by_cases c : 0 ≤ x.a <;> by_cases c2 : 0 ≤ x.c <;> simp [c, c2] <;> omega)
  · intro q0 q1 q2 hq
    rw [h1] at hq
    simp only [List.cons.injEq, and_true] at hq
    obtain ⟨rfl, rfl, rfl⟩ := hq
    exact ⟨ask_none (by decide) (by decide) (by decide), ask_none (by decide) (by decide) (by decide), ask_none (by decide) (by decide) (by decide)⟩

theorem reg_23 {p : Pg} {f : Fc} {x : In} (H : Smooth p f) (hi : instrB p f x = true) (e : x.op = 23) : (∀ pc, SameR p f pc x) ∧ SameW x ∧ AskL p x := by
  have h1 : rolesP x = [100, 115, 45] := by rw [rolesP_in (by omega) (by omega), e]; rfl
  have h2 : roles x.op = [100, 114, 45] := by rw [e]; decide
  obtain ⟨r0, r1, r2, er, _, ha, hb, hc, h24, h25, h38⟩ := instr_parts hi
  rw [h2] at er
  simp only [List.cons.injEq, and_true] at er
  obtain ⟨rfl, rfl, rfl⟩ := er
  have hr := H.reg
  have hpar := H.par x.b
  simp [operandB, C.len] at ha hb hc
  clear h24 h25 h38
  refine ⟨fun pc m => ?_, ?_⟩
  · rw [mem_nonneg]
    unfold srcL rolesOf more
    rw [h1, h2]
    simp [srcOne, rd, e]
    first
      | done
      | omega
      | (by_cases c : 0 ≤ x.a <;> simp [c] <;> omega)
      | (by_cases c : 0 ≤ x.a <;> simp [c]; omega)
  refine ⟨fun m => ?_, ?_⟩
  · rw [mem_nonneg]
    unfold dstL rolesOf
    rw [h1, h2]
    simp [dstOne, wr]
    first
      | done
      | omega
      | (by_cases c : 0 ≤ x.a <;> simp [c] <;> omega)
      | (by_cases c : 0 ≤ x.a <;> by_cases c2 : 0 ≤ x.c <;> simp [c, c2] <;> omega)
  · intro q0 q1 q2 hq
    rw [h1] at hq
    simp only [List.cons.injEq, and_true] at hq
    obtain ⟨rfl, rfl, rfl⟩ := hq
    exact ⟨ask_none (by decide) (by decide) (by decide), ask_none (by decide) (by decide) (by decide), ask_none (by decide) (by decide) (by decide)⟩

theorem reg_24 {p : Pg} {f : Fc} {x : In} (H : Smooth p f) (hi : instrB p f x = true) (e : x.op = 24) : (∀ pc, SameR p f pc x) ∧ SameW x ∧ AskL p x := by
  have h1 : rolesP x = [100, 102, 110] := by rw [rolesP_in (by omega) (by omega), e]; rfl
  have h2 : roles x.op = [100, 49, 110] := by rw [e]; decide
  obtain ⟨r0, r1, r2, er, _, ha, hb, hc, h24, h25, h38⟩ := instr_parts hi
  rw [h2] at er
  simp only [List.cons.injEq, and_true] at er
  obtain ⟨rfl, rfl, rfl⟩ := er
  have hr := H.reg
  have hpar := H.par x.b
  simp [operandB, C.len] at ha hb hc
  clear h24 h25 h38
  refine ⟨fun pc m => ?_, ?_⟩
  · rw [mem_nonneg]
    unfold srcL rolesOf more
    rw [h1, h2]
    simp [srcOne, rd, e]
    intro h
    exact up_nonneg (by omega) h
  refine ⟨fun m => ?_, ?_⟩
  · rw [mem_nonneg]
    unfold dstL rolesOf
    rw [h1, h2]
    simp [dstOne, wr]
    first
      | done
      | omega
      | (by_cases c : 0 ≤ x.a <;> simp [c] <;> omega)
      | (by_cases c : 0 ≤ x.a <;> by_cases c2 : 0 ≤ x.c <;> simp [c, c2] <;> omega)
  · intro q0 q1 q2 hq
    rw [h1] at hq
    simp only [List.cons.injEq, and_true] at hq
    obtain ⟨rfl, rfl, rfl⟩ := hq
    refine ⟨ask_none (by decide) (by decide) (by decide), ask_none (by decide) (by decide) (by decide), ⟨fun h => absurd h (by decide), fun h => absurd h (by decide), fun _ => by omega⟩⟩

theorem reg_25 {p : Pg} {f : Fc} {x : In} (H : Smooth p f) (hi : instrB p f x = true) (e : x.op = 25) : (∀ pc, SameR p f pc x) ∧ SameW x ∧ AskL p x := by
  have h1 : rolesP x = [100, 107, 45] := by rw [rolesP_in (by omega) (by omega), e]; rfl
  have h2 : roles x.op = [100, 110, 45] := by rw [e]; decide
  obtain ⟨r0, r1, r2, er, _, ha, hb, hc, h24, h25, h38⟩ := instr_parts hi
  rw [h2] at er
  simp only [List.cons.injEq, and_true] at er
  obtain ⟨rfl, rfl, rfl⟩ := er
  have hr := H.reg
  have hpar := H.par x.b
  simp [operandB, C.len] at ha hb hc
  clear h24 h25 h38
  refine ⟨fun pc m => ?_, ?_⟩
  · rw [mem_nonneg]
    unfold srcL rolesOf more
    rw [h1, h2]
    simp [srcOne, rd, e]
    first
      | done
      | omega
      | (by_cases c : 0 ≤ x.a <;> simp [c] <;> omega)
      | (by_cases c : 0 ≤ x.a <;> simp [c]; omega)
  refine ⟨fun m => ?_, ?_⟩
  · rw [mem_nonneg]
    unfold dstL rolesOf
    rw [h1, h2]
    simp [dstOne, wr]
    first
      | done
      | omega
      | (by_cases c : 0 ≤ x.a <;> simp [c] <;> omega)
      | (by_cases c : 0 ≤ x.a <;> by_cases c2 : 0 ≤ x.c <;> simp [c, c2] <;> omega)
  · intro q0 q1 q2 hq
    rw [h1] at hq
    simp only [List.cons.injEq, and_true] at hq
    obtain ⟨rfl, rfl, rfl⟩ := hq
    exact ⟨ask_none (by decide) (by decide) (by decide), ask_none (by decide) (by decide) (by decide), ask_none (by decide) (by decide) (by decide)⟩

theorem reg_26 {p : Pg} {f : Fc} {x : In} (H : Smooth p f) (hi : instrB p f x = true) (e : x.op = 26) : (∀ pc, SameR p f pc x) ∧ SameW x ∧ AskL p x := by
  have h1 : rolesP x = [68, 102, 97] := by rw [rolesP_in (by omega) (by omega), e]; rfl
  have h2 : roles x.op = [68, 102, 97] := by rw [e]; decide
  obtain ⟨r0, r1, r2, er, _, ha, hb, hc, h24, h25, h38⟩ := instr_parts hi
  rw [h2] at er
  simp only [List.cons.injEq, and_true] at er
  obtain ⟨rfl, rfl, rfl⟩ := er
  have hr := H.reg
  have hpar := H.par x.b
  simp [operandB, C.len] at ha hb hc
  clear h24 h25 h38
  refine ⟨fun pc m => ?_, ?_⟩
  · rw [mem_nonneg]
    unfold srcL rolesOf more
    rw [h1, h2, if_pos (by omega), if_pos ⟨hb.1, by simp only [C.len]; omega⟩]
    simp [srcOne, rd]
    intro h
    exact up_nonneg (by omega) h
  refine ⟨fun m => ?_, ?_⟩
  · rw [mem_nonneg]
    unfold dstL rolesOf
    rw [h1, h2]
    simp [dstOne, wr]
    first
      | done
      | omega
      | (by_cases c : 0 ≤ x.a <;> simp [c] <;> omega)
      | (by_cases c : 0 ≤ x.a <;> by_cases c2 : 0 ≤ x.c <;> simp [c, c2] <;> omega)
  · intro q0 q1 q2 hq
    rw [h1] at hq
    simp only [List.cons.injEq, and_true] at hq
    obtain ⟨rfl, rfl, rfl⟩ := hq
    have hp2 := hpar hb.1 (by simp only [C.len]; omega)
    have hw := wrap_sub hr hp2
    rw [List.getD_eq_getElem?_getD] at hp2 hw
    (try simp only [List.getD_eq_getElem?_getD] at hb)
    refine ⟨ask_none (by decide) (by decide) (by decide), ask_none (by decide) (by decide) (by decide), ⟨fun h => absurd h (by decide), fun _ => ⟨hb.1, by omega, by rw [List.getD_eq_getElem?_getD]; omega, by rw [List.getD_eq_getElem?_getD]; omega, by omega, by omega⟩, fun h => absurd h (by decide)⟩⟩

theorem reg_27 {p : Pg} {f : Fc} {x : In} (H : Smooth p f) (hi : instrB p f x = true) (e : x.op = 27) : (∀ pc, SameR p f pc x) ∧ SameW x ∧ AskL p x := by
  have h1 : rolesP x = [115, 45, 45] := by rw [rolesP_in (by omega) (by omega), e]; rfl
  have h2 : roles x.op = [114, 45, 45] := by rw [e]; decide
  obtain ⟨r0, r1, r2, er, _, ha, hb, hc, h24, h25, h38⟩ := instr_parts hi
  rw [h2] at er
  simp only [List.cons.injEq, and_true] at er
  obtain ⟨rfl, rfl, rfl⟩ := er
  have hr := H.reg
  have hpar := H.par x.b
  simp [operandB, C.len] at ha hb hc
  clear h24 h25 h38
  refine ⟨fun pc m => ?_, ?_⟩
  · rw [mem_nonneg]
    unfold srcL rolesOf more
    rw [h1, h2]
    simp [srcOne, rd, e]
    first
      | done
      | omega
      | (by_cases c : 0 ≤ x.a <;> simp [c] <;> omega)
      | (by_cases c : 0 ≤ x.a <;> simp [c]; omega)
  refine ⟨fun m => ?_, ?_⟩
  · rw [mem_nonneg]
    unfold dstL rolesOf
    rw [h1, h2]
    simp [dstOne, wr]
    first
      | done
      | omega
      | (by_cases c : 0 ≤ x.a <;> simp [c] <;> omega)
      | (by_cases c : 0 ≤ x.a <;> by_cases c2 : 0 ≤ x.c <;> simp [c, c2] <;> omega)
  · intro q0 q1 q2 hq
    rw [h1] at hq
    simp only [List.cons.injEq, and_true] at hq
    obtain ⟨rfl, rfl, rfl⟩ := hq
    exact ⟨ask_none (by decide) (by decide) (by decide), ask_none (by decide) (by decide) (by decide), ask_none (by decide) (by decide) (by decide)⟩

theorem reg_28 {p : Pg} {f : Fc} {x : In} (H : Smooth p f) (hi : instrB p f x = true) (e : x.op = 28) : (∀ pc, SameR p f pc x) ∧ SameW x ∧ AskL p x := by
  have h1 : rolesP x = [45, 102, 97] := by rw [rolesP_in (by omega) (by omega), e]; rfl
  have h2 : roles x.op = [45, 102, 97] := by rw [e]; decide
  obtain ⟨r0, r1, r2, er, _, ha, hb, hc, h24, h25, h38⟩ := instr_parts hi
  rw [h2] at er
  simp only [List.cons.injEq, and_true] at er
  obtain ⟨rfl, rfl, rfl⟩ := er
  have hr := H.reg
  have hpar := H.par x.b
  simp [operandB, C.len] at ha hb hc
  clear h24 h25 h38
  refine ⟨fun pc m => ?_, ?_⟩
  · rw [mem_nonneg]
    unfold srcL rolesOf more
    rw [h1, h2, if_pos (by omega), if_pos ⟨hb.1, by simp only [C.len]; omega⟩]
    simp [srcOne, rd]
    intro h
    exact up_nonneg (by omega) h
  refine ⟨fun m => ?_, ?_⟩
  · rw [mem_nonneg]
    unfold dstL rolesOf
    rw [h1, h2]
    simp [dstOne, wr]
    first
      | done
      | omega
      | (by_cases c : 0 ≤ x.a <;> simp [c] <;> omega)
      | (by_cases c : 0 ≤ x.a <;> by_cases c2 : 0 ≤ x.c <;> simp [c, c2] <;> omega)
  · intro q0 q1 q2 hq
    rw [h1] at hq
    simp only [List.cons.injEq, and_true] at hq
    obtain ⟨rfl, rfl, rfl⟩ := hq
    have hp2 := hpar hb.1 (by simp only [C.len]; omega)
    have hw := wrap_sub hr hp2
    rw [List.getD_eq_getElem?_getD] at hp2 hw
    (try simp only [List.getD_eq_getElem?_getD] at hb)
    refine ⟨ask_none (by decide) (by decide) (by decide), ask_none (by decide) (by decide) (by decide), ⟨fun h => absurd h (by decide), fun _ => ⟨hb.1, by omega, by rw [List.getD_eq_getElem?_getD]; omega, by rw [List.getD_eq_getElem?_getD]; omega, by omega, by omega⟩, fun h => absurd h (by decide)⟩⟩

theorem reg_29 {p : Pg} {f : Fc} {x : In} (H : Smooth p f) (hi : instrB p f x = true) (e : x.op = 29) : (∀ pc, SameR p f pc x) ∧ SameW x ∧ AskL p x := by
  have h1 : rolesP x = [115, 45, 45] := by rw [rolesP_in (by omega) (by omega), e]; rfl
  have h2 : roles x.op = [114, 45, 45] := by rw [e]; decide
  obtain ⟨r0, r1, r2, er, _, ha, hb, hc, h24, h25, h38⟩ := instr_parts hi
  rw [h2] at er
  simp only [List.cons.injEq, and_true] at er
  obtain ⟨rfl, rfl, rfl⟩ := er
  have hr := H.reg
  have hpar := H.par x.b
  simp [operandB, C.len] at ha hb hc
  clear h24 h25 h38
  refine ⟨fun pc m => ?_, ?_⟩
  · rw [mem_nonneg]
    unfold srcL rolesOf more
    rw [h1, h2]
    simp [srcOne, rd, e]
    first
      | done
      | omega
      | (by_cases c : 0 ≤ x.a <;> simp [c] <;> omega)
      | (by_cases c : 0 ≤ x.a <;> simp [c]; omega)
  refine ⟨fun m => ?_, ?_⟩
  · rw [mem_nonneg]
    unfold dstL rolesOf
    rw [h1, h2]
    simp [dstOne, wr]
    first
      | done
      | omega
      | (by_cases c : 0 ≤ x.a <;> simp [c] <;> omega)
      | (by_cases c : 0 ≤ x.a <;> by_cases c2 : 0 ≤ x.c <;> simp [c, c2] <;> omega)
  · intro q0 q1 q2 hq
    rw [h1] at hq
    simp only [List.cons.injEq, and_true] at hq
    obtain ⟨rfl, rfl, rfl⟩ := hq
    exact ⟨ask_none (by decide) (by decide) (by decide), ask_none (by decide) (by decide) (by decide), ask_none (by decide) (by decide) (by decide)⟩

theorem reg_30 {p : Pg} {f : Fc} {x : In} (H : Smooth p f) (hi : instrB p f x = true) (e : x.op = 30) : (∀ pc, SameR p f pc x) ∧ SameW x ∧ AskL p x := by
  have h1 : rolesP x = [83, 45, 45] := by rw [rolesP_in (by omega) (by omega), e]; rfl
  have h2 : roles x.op = [82, 45, 45] := by rw [e]; decide
  obtain ⟨r0, r1, r2, er, _, ha, hb, hc, h24, h25, h38⟩ := instr_parts hi
  rw [h2] at er
  simp only [List.cons.injEq, and_true] at er
  obtain ⟨rfl, rfl, rfl⟩ := er
  have hr := H.reg
  have hpar := H.par x.b
  simp [operandB, C.len] at ha hb hc
  clear h24 h25 h38
  refine ⟨fun pc m => ?_, ?_⟩
  · rw [mem_nonneg]
    unfold srcL rolesOf more
    rw [h1, h2]
    simp [srcOne, rd, e]
    first
      | done
      | omega
      | (by_cases c : 0 ≤ x.a <;> simp [c] <;> omega)
      | (by_cases c : 0 ≤ x.a <;> simp [c]; omega)
  refine ⟨fun m => ?_, ?_⟩
  · rw [mem_nonneg]
    unfold dstL rolesOf
    rw [h1, h2]
    simp [dstOne, wr]
    first
      | done
      | omega
      | (by_cases c : 0 ≤ x.a <;> simp [c] <;> omega)
      | (by_cases c : 0 ≤ x.a <;> by_cases c2 : 0 ≤ x.c <;> simp [c, c2] <;> omega)
  · intro q0 q1 q2 hq
    rw [h1] at hq
    simp only [List.cons.injEq, and_true] at hq
    obtain ⟨rfl, rfl, rfl⟩ := hq
    exact ⟨ask_none (by decide) (by decide) (by decide), ask_none (by decide) (by decide) (by decide), ask_none (by decide) (by decide) (by decide)⟩

theorem reg_31 {p : Pg} {f : Fc} {x : In} (H : Smooth p f) (hi : instrB p f x = true) (e : x.op = 31) : (∀ pc, SameR p f pc x) ∧ SameW x ∧ AskL p x := by
  have h1 : rolesP x = [45, 102, 97] := by rw [rolesP_in (by omega) (by omega), e]; rfl
  have h2 : roles x.op = [45, 102, 97] := by rw [e]; decide
  obtain ⟨r0, r1, r2, er, _, ha, hb, hc, h24, h25, h38⟩ := instr_parts hi
  rw [h2] at er
  simp only [List.cons.injEq, and_true] at er
  obtain ⟨rfl, rfl, rfl⟩ := er
  have hr := H.reg
  have hpar := H.par x.b
  simp [operandB, C.len] at ha hb hc
  clear h24 h25 h38
  refine ⟨fun pc m => ?_, ?_⟩
  · rw [mem_nonneg]
    unfold srcL rolesOf more
    rw [h1, h2, if_pos (by omega), if_pos ⟨hb.1, by simp only [C.len]; omega⟩]
    simp [srcOne, rd]
    intro h
    exact up_nonneg (by omega) h
  refine ⟨fun m => ?_, ?_⟩
  · rw [mem_nonneg]
    unfold dstL rolesOf
    rw [h1, h2]
    simp [dstOne, wr]
    first
      | done
      | omega
      | (by_cases c : 0 ≤ x.a <;> simp [c] <;> omega)
      | (by_cases c : 0 ≤ x.a <;> by_cases c2 : 0 ≤ x.c <;> simp [c, c2] <;> omega)
  · intro q0 q1 q2 hq
    rw [h1] at hq
    simp only [List.cons.injEq, and_true] at hq
    obtain ⟨rfl, rfl, rfl⟩ := hq
    have hp2 := hpar hb.1 (by simp only [C.len]; omega)
    have hw := wrap_sub hr hp2
    rw [List.getD_eq_getElem?_getD] at hp2 hw
    (try simp only [List.getD_eq_getElem?_getD] at hb)
    refine ⟨ask_none (by decide) (by decide) (by decide), ask_none (by decide) (by decide) (by decide), ⟨fun h => absurd h (by decide), fun _ => ⟨hb.1, by omega, by rw [List.getD_eq_getElem?_getD]; omega, by rw [List.getD_eq_getElem?_getD]; omega, by omega, by omega⟩, fun h => absurd h (by decide)⟩⟩

theorem reg_32 {p : Pg} {f : Fc} {x : In} (H : Smooth p f) (hi : instrB p f x = true) (e : x.op = 32) : (∀ pc, SameR p f pc x) ∧ SameW x ∧ AskL p x := by
  have h1 : rolesP x = [115, 45, 45] := by rw [rolesP_in (by omega) (by omega), e]; rfl
  have h2 : roles x.op = [114, 45, 45] := by rw [e]; decide
  obtain ⟨r0, r1, r2, er, _, ha, hb, hc, h24, h25, h38⟩ := instr_parts hi
  rw [h2] at er
  simp only [List.cons.injEq, and_true] at er
  obtain ⟨rfl, rfl, rfl⟩ := er
  have hr := H.reg
  have hpar := H.par x.b
  simp [operandB, C.len] at ha hb hc
  clear h24 h25 h38
  refine ⟨fun pc m => ?_, ?_⟩
  · rw [mem_nonneg]
    unfold srcL rolesOf more
    rw [h1, h2]
    simp [srcOne, rd, e]
    first
      | done
      | omega
      | (by_cases c : 0 ≤ x.a <;> simp [c] <;> omega)
      | (by_cases c : 0 ≤ x.a <;> simp [c]; omega)
  refine ⟨fun m => ?_, ?_⟩
  · rw [mem_nonneg]
    unfold dstL rolesOf
    rw [h1, h2]
    simp [dstOne, wr]
    first
      | done
      | omega
      | (by_cases c : 0 ≤ x.a <;> simp [c] <;> omega)
      | (by_cases c : 0 ≤ x.a <;> by_cases c2 : 0 ≤ x.c <;> simp [c, c2] <;> omega)
  · intro q0 q1 q2 hq
    rw [h1] at hq
    simp only [List.cons.injEq, and_true] at hq
    obtain ⟨rfl, rfl, rfl⟩ := hq
    exact ⟨ask_none (by decide) (by decide) (by decide), ask_none (by decide) (by decide) (by decide), ask_none (by decide) (by decide) (by decide)⟩

theorem reg_33 {p : Pg} {f : Fc} {x : In} (H : Smooth p f) (hi : instrB p f x = true) (e : x.op = 33) : (∀ pc, SameR p f pc x) ∧ SameW x ∧ AskL p x := by
  have h1 : rolesP x = [100, 115, 45] := by rw [rolesP_in (by omega) (by omega), e]; rfl
  have h2 : roles x.op = [100, 114, 45] := by rw [e]; decide
  obtain ⟨r0, r1, r2, er, _, ha, hb, hc, h24, h25, h38⟩ := instr_parts hi
  rw [h2] at er
  simp only [List.cons.injEq, and_true] at er
  obtain ⟨rfl, rfl, rfl⟩ := er
  have hr := H.reg
  have hpar := H.par x.b
  simp [operandB, C.len] at ha hb hc
  clear h24 h25 h38
  refine ⟨fun pc m => ?_, ?_⟩
  · rw [mem_nonneg]
    unfold srcL rolesOf more
    rw [h1, h2]
    simp [srcOne, rd, e]
    first
      | done
      | omega
      | (by_cases c : 0 ≤ x.a <;> simp [c] <;> omega)
      | (by_cases c : 0 ≤ x.a <;> simp [c]; omega)
  refine ⟨fun m => ?_, ?_⟩
  · rw [mem_nonneg]
    unfold dstL rolesOf
    rw [h1, h2]
    simp [dstOne, wr]
    first
      | done
      | omega
      | (by_cases c : 0 ≤ x.a <;> simp [c] <;> omega)
      | (by_cases c : 0 ≤ x.a <;> by_cases c2 : 0 ≤ x.c <;> simp [c, c2] <;> omega)
  · intro q0 q1 q2 hq
    rw [h1] at hq
    simp only [List.cons.injEq, and_true] at hq
    obtain ⟨rfl, rfl, rfl⟩ := hq
    exact ⟨ask_none (by decide) (by decide) (by decide), ask_none (by decide) (by decide) (by decide), ask_none (by decide) (by decide) (by decide)⟩

theorem reg_34 {p : Pg} {f : Fc} {x : In} (H : Smooth p f) (hi : instrB p f x = true) (e : x.op = 34) : (∀ pc, SameR p f pc x) ∧ SameW x ∧ AskL p x := by
  have h1 : rolesP x = [115, 115, 45] := by rw [rolesP_in (by omega) (by omega), e]; rfl
  have h2 : roles x.op = [114, 114, 45] := by rw [e]; decide
  obtain ⟨r0, r1, r2, er, _, ha, hb, hc, h24, h25, h38⟩ := instr_parts hi
  rw [h2] at er
  simp only [List.cons.injEq, and_true] at er
  obtain ⟨rfl, rfl, rfl⟩ := er
  have hr := H.reg
  have hpar := H.par x.b
  simp [operandB, C.len] at ha hb hc
  clear h24 h25 h38
  refine ⟨fun pc m => ?_, ?_⟩
  · rw [mem_nonneg]
    unfold srcL rolesOf more
    rw [h1, h2]
    simp [srcOne, rd, e]
    first
      | done
      | omega
      | (by_cases c : 0 ≤ x.a <;> simp [c] <;> omega)
      | (by_cases c : 0 ≤ x.a <;> simp [c]; omega)
  refine ⟨fun m => ?_, ?_⟩
  · rw [mem_nonneg]
    unfold dstL rolesOf
    rw [h1, h2]
    simp [dstOne, wr]
    first
      | done
      | omega
      | (by_cases c : 0 ≤ x.a <;> simp [c] <;> omega)
      | (by_cases c : 0 ≤ x.a <;> by_cases c2 : 0 ≤ x.c <;> simp [c, c2] <;> omega)
  · intro q0 q1 q2 hq
    rw [h1] at hq
    simp only [List.cons.injEq, and_true] at hq
    obtain ⟨rfl, rfl, rfl⟩ := hq
    exact ⟨ask_none (by decide) (by decide) (by decide), ask_none (by decide) (by decide) (by decide), ask_none (by decide) (by decide) (by decide)⟩

theorem reg_35 {p : Pg} {f : Fc} {x : In} (H : Smooth p f) (hi : instrB p f x = true) (e : x.op = 35) : (∀ pc, SameR p f pc x) ∧ SameW x ∧ AskL p x := by
  have h1 : rolesP x = [100, 115, 45] := by rw [rolesP_in (by omega) (by omega), e]; rfl
  have h2 : roles x.op = [100, 114, 45] := by rw [e]; decide
  obtain ⟨r0, r1, r2, er, _, ha, hb, hc, h24, h25, h38⟩ := instr_parts hi
  rw [h2] at er
  simp only [List.cons.injEq, and_true] at er
  obtain ⟨rfl, rfl, rfl⟩ := er
  have hr := H.reg
  have hpar := H.par x.b
  simp [operandB, C.len] at ha hb hc
  clear h24 h25 h38
  refine ⟨fun pc m => ?_, ?_⟩
  · rw [mem_nonneg]
    unfold srcL rolesOf more
    rw [h1, h2]
    simp [srcOne, rd, e]
    first
      | done
      | omega
      | (by_cases c : 0 ≤ x.a <;> simp [c] <;> omega)
      | (by_cases c : 0 ≤ x.a <;> simp [c]; omega)
  refine ⟨fun m => ?_, ?_⟩
  · rw [mem_nonneg]
    unfold dstL rolesOf
    rw [h1, h2]
    simp [dstOne, wr]
    first
      | done
      | omega
      | (by_cases c : 0 ≤ x.a <;> simp [c] <;> omega)
      | (by_cases c : 0 ≤ x.a <;> by_cases c2 : 0 ≤ x.c <;> simp [c, c2] <;> omega)
  · intro q0 q1 q2 hq
    rw [h1] at hq
    simp only [List.cons.injEq, and_true] at hq
    obtain ⟨rfl, rfl, rfl⟩ := hq
    exact ⟨ask_none (by decide) (by decide) (by decide), ask_none (by decide) (by decide) (by decide), ask_none (by decide) (by decide) (by decide)⟩

theorem reg_36 {p : Pg} {f : Fc} {x : In} (H : Smooth p f) (hi : instrB p f x = true) (e : x.op = 36) : (∀ pc, SameR p f pc x) ∧ SameW x ∧ AskL p x := by
  have h1 : rolesP x = [115, 115, 45] := by rw [rolesP_in (by omega) (by omega), e]; rfl
  have h2 : roles x.op = [114, 114, 45] := by rw [e]; decide
  obtain ⟨r0, r1, r2, er, _, ha, hb, hc, h24, h25, h38⟩ := instr_parts hi
  rw [h2] at er
  simp only [List.cons.injEq, and_true] at er
  obtain ⟨rfl, rfl, rfl⟩ := er
  have hr := H.reg
  have hpar := H.par x.b
  simp [operandB, C.len] at ha hb hc
  clear h24 h25 h38
  refine ⟨fun pc m => ?_, ?_⟩
  · rw [mem_nonneg]
    unfold srcL rolesOf more
    rw [h1, h2]
    simp [srcOne, rd, e]
    first
      | done
      | omega
      | (by_cases c : 0 ≤ x.a <;> simp [c] <;> omega)
      | (by_cases c : 0 ≤ x.a <;> simp [c]; omega)
  refine ⟨fun m => ?_, ?_⟩
  · rw [mem_nonneg]
    unfold dstL rolesOf
    rw [h1, h2]
    simp [dstOne, wr]
    first
      | done
      | omega
      | (by_cases c : 0 ≤ x.a <;> simp [c] <;> omega)
      | (by_cases c : 0 ≤ x.a <;> by_cases c2 : 0 ≤ x.c <;> simp [c, c2] <;> omega)
  · intro q0 q1 q2 hq
    rw [h1] at hq
    simp only [List.cons.injEq, and_true] at hq
    obtain ⟨rfl, rfl, rfl⟩ := hq
    exact ⟨ask_none (by decide) (by decide) (by decide), ask_none (by decide) (by decide) (by decide), ask_none (by decide) (by decide) (by decide)⟩

theorem reg_37 {p : Pg} {f : Fc} {x : In} (H : Smooth p f) (hi : instrB p f x = true) (e : x.op = 37) : (∀ pc, SameR p f pc x) ∧ SameW x ∧ AskL p x := by
  have h1 : rolesP x = [100, 115, 115] := by rw [rolesP_in (by omega) (by omega), e]; rfl
  have h2 : roles x.op = [100, 114, 114] := by rw [e]; decide
  obtain ⟨r0, r1, r2, er, _, ha, hb, hc, h24, h25, h38⟩ := instr_parts hi
  rw [h2] at er
  simp only [List.cons.injEq, and_true] at er
  obtain ⟨rfl, rfl, rfl⟩ := er
  have hr := H.reg
  have hpar := H.par x.b
  simp [operandB, C.len] at ha hb hc
  clear h24 h25 h38
  refine ⟨fun pc m => ?_, ?_⟩
  · rw [mem_nonneg]
    unfold srcL rolesOf more
    rw [h1, h2]
    simp [srcOne, rd, e]
    first
      | done
      | omega
      | (by_cases c : 0 ≤ x.a <;> simp [c] <;> omega)
      | (by_cases c : 0 ≤ x.a <;> simp [c]; omega)
  refine ⟨fun m => ?_, ?_⟩
  · rw [mem_nonneg]
    unfold dstL rolesOf
    rw [h1, h2]
    simp [dstOne, wr]
    first
      | done
      | omega
      | (by_cases c : 0 ≤ x.a <;> simp [c] <;> omega)
      | (by_cases c : 0 ≤ x.a <;> by_cases c2 : 0 ≤ x.c <;> simp [c, c2] <;> omega)
  · intro q0 q1 q2 hq
    rw [h1] at hq
    simp only [List.cons.injEq, and_true] at hq
    obtain ⟨rfl, rfl, rfl⟩ := hq
    exact ⟨ask_none (by decide) (by decide) (by decide), ask_none (by decide) (by decide) (by decide), ask_none (by decide) (by decide) (by decide)⟩

theorem reg_38 {p : Pg} {f : Fc} {x : In} (H : Smooth p f) (hi : instrB p f x = true) (e : x.op = 38) : (∀ pc, SameR p f pc x) ∧ SameW x ∧ AskL p x := by
  have h1 : rolesP x = [100, 115, 112] := by rw [rolesP_in (by omega) (by omega), e]; rfl
  have h2 : roles x.op = [100, 114, 114] := by rw [e]; decide
  obtain ⟨r0, r1, r2, er, _, ha, hb, hc, h24, h25, h38⟩ := instr_parts hi
  rw [h2] at er
  simp only [List.cons.injEq, and_true] at er
  obtain ⟨rfl, rfl, rfl⟩ := er
  have hr := H.reg
  have hpar := H.par x.b
  simp [operandB, C.len] at ha hb hc
  clear h24 h25 
  refine ⟨fun pc m => ?_, ?_⟩
  · rw [mem_nonneg]
    unfold srcL rolesOf more
    rw [h1, h2]
    simp [srcOne, rd, e]
    first
      | done
      | omega
      | (by_cases c : 0 ≤ x.a <;> simp [c] <;> omega)
      | (by_cases c : 0 ≤ x.a <;> simp [c]; omega)
  refine ⟨fun m => ?_, ?_⟩
  · rw [mem_nonneg]
    unfold dstL rolesOf
    rw [h1, h2]
    simp [dstOne, wr]
    first
      | done
      | omega
      | (by_cases c : 0 ≤ x.a <;> simp [c] <;> omega)
      | (by_cases c : 0 ≤ x.a <;> by_cases c2 : 0 ≤ x.c <;> simp [c, c2] <;> omega)
  · intro q0 q1 q2 hq
    rw [h1] at hq
    simp only [List.cons.injEq, and_true] at hq
    obtain ⟨rfl, rfl, rfl⟩ := hq
    have := h38 e
    refine ⟨ask_none (by decide) (by decide) (by decide), ask_none (by decide) (by decide) (by decide), ⟨fun _ => by omega, fun h => absurd h (by decide), fun h => absurd h (by decide)⟩⟩

theorem reg_39 {p : Pg} {f : Fc} {x : In} (H : Smooth p f) (hi : instrB p f x = true) (e : x.op = 39) : (∀ pc, SameR p f pc x) ∧ SameW x ∧ AskL p x := by
  have h1 : rolesP x = [115, 45, 45] := by rw [rolesP_in (by omega) (by omega), e]; rfl
  have h2 : roles x.op = [114, 45, 45] := by rw [e]; decide
  obtain ⟨r0, r1, r2, er, _, ha, hb, hc, h24, h25, h38⟩ := instr_parts hi
  rw [h2] at er
  simp only [List.cons.injEq, and_true] at er
  obtain ⟨rfl, rfl, rfl⟩ := er
  have hr := H.reg
  have hpar := H.par x.b
  simp [operandB, C.len] at ha hb hc
  clear h24 h25 h38
  refine ⟨fun pc m => ?_, ?_⟩
  · rw [mem_nonneg]
    unfold srcL rolesOf more
    rw [h1, h2]
    simp [srcOne, rd, e]
    first
      | done
      | omega
      | (by_cases c : 0 ≤ x.a <;> simp [c] <;> omega)
      | (by_cases c : 0 ≤ x.a <;> simp [c]; omega)
  refine ⟨fun m => ?_, ?_⟩
  · rw [mem_nonneg]
    unfold dstL rolesOf
    rw [h1, h2]
    simp [dstOne, wr]
    first
      | done
      | omega
      | (by_cases c : 0 ≤ x.a <;> simp [c] <;> omega)
      | (by_cases c : 0 ≤ x.a <;> by_cases c2 : 0 ≤ x.c <;> simp [c, c2] <;> omega)
  · intro q0 q1 q2 hq
    rw [h1] at hq
    simp only [List.cons.injEq, and_true] at hq
    obtain ⟨rfl, rfl, rfl⟩ := hq
    exact ⟨ask_none (by decide) (by decide) (by decide), ask_none (by decide) (by decide) (by decide), ask_none (by decide) (by decide) (by decide)⟩

theorem reg_40 {p : Pg} {f : Fc} {x : In} (H : Smooth p f) (hi : instrB p f x = true) (e : x.op = 40) : (∀ pc, SameR p f pc x) ∧ SameW x ∧ AskL p x := by
  have h1 : rolesP x = [115, 45, 45] := by rw [rolesP_in (by omega) (by omega), e]; rfl
  have h2 : roles x.op = [114, 45, 45] := by rw [e]; decide
  obtain ⟨r0, r1, r2, er, _, ha, hb, hc, h24, h25, h38⟩ := instr_parts hi
  rw [h2] at er
  simp only [List.cons.injEq, and_true] at er
  obtain ⟨rfl, rfl, rfl⟩ := er
  have hr := H.reg
  have hpar := H.par x.b
  simp [operandB, C.len] at ha hb hc
  clear h24 h25 h38
  refine ⟨fun pc m => ?_, ?_⟩
  · rw [mem_nonneg]
    unfold srcL rolesOf more
    rw [h1, h2]
    simp [srcOne, rd, e]
    first
      | done
      | omega
      | (by_cases c : 0 ≤ x.a <;> simp [c] <;> omega)
      | (by_cases c : 0 ≤ x.a <;> simp [c]; omega)
  refine ⟨fun m => ?_, ?_⟩
  · rw [mem_nonneg]
    unfold dstL rolesOf
    rw [h1, h2]
    simp [dstOne, wr]
    first
      | done
      | omega
      | (by_cases c : 0 ≤ x.a <;> simp [c] <;> omega)
      | (by_cases c : 0 ≤ x.a <;> by_cases c2 : 0 ≤ x.c <;> simp [c, c2] <;> omega)
  · intro q0 q1 q2 hq
    rw [h1] at hq
    simp only [List.cons.injEq, and_true] at hq
    obtain ⟨rfl, rfl, rfl⟩ := hq
    exact ⟨ask_none (by decide) (by decide) (by decide), ask_none (by decide) (by decide) (by decide), ask_none (by decide) (by decide) (by decide)⟩

theorem reg_41 {p : Pg} {f : Fc} {x : In} (H : Smooth p f) (hi : instrB p f x = true) (e : x.op = 41) : (∀ pc, SameR p f pc x) ∧ SameW x ∧ AskL p x := by
  have h1 : rolesP x = [115, 45, 45] := by rw [rolesP_in (by omega) (by omega), e]; rfl
  have h2 : roles x.op = [114, 45, 45] := by rw [e]; decide
  obtain ⟨r0, r1, r2, er, _, ha, hb, hc, h24, h25, h38⟩ := instr_parts hi
  rw [h2] at er
  simp only [List.cons.injEq, and_true] at er
  obtain ⟨rfl, rfl, rfl⟩ := er
  have hr := H.reg
  have hpar := H.par x.b
  simp [operandB, C.len] at ha hb hc
  clear h24 h25 h38
  refine ⟨fun pc m => ?_, ?_⟩
  · rw [mem_nonneg]
    unfold srcL rolesOf more
    rw [h1, h2]
    simp [srcOne, rd, e]
    first
      | done
      | omega
      | (by_cases c : 0 ≤ x.a <;> simp [c] <;> omega)
      | (by_cases c : 0 ≤ x.a <;> simp [c]; omega)
  refine ⟨fun m => ?_, ?_⟩
  · rw [mem_nonneg]
    unfold dstL rolesOf
    rw [h1, h2]
    simp [dstOne, wr]
    first
      | done
      | omega
      | (by_cases c : 0 ≤ x.a <;> simp [c] <;> omega)
      | (by_cases c : 0 ≤ x.a <;> by_cases c2 : 0 ≤ x.c <;> simp [c, c2] <;> omega)
  · intro q0 q1 q2 hq
    rw [h1] at hq
    simp only [List.cons.injEq, and_true] at hq
    obtain ⟨rfl, rfl, rfl⟩ := hq
    exact ⟨ask_none (by decide) (by decide) (by decide), ask_none (by decide) (by decide) (by decide), ask_none (by decide) (by decide) (by decide)⟩

theorem reg_42 {p : Pg} {f : Fc} {x : In} (H : Smooth p f) (hi : instrB p f x = true) (e : x.op = 42) : (∀ pc, SameR p f pc x) ∧ SameW x ∧ AskL p x := by
  have h1 : rolesP x = [115, 45, 45] := by rw [rolesP_in (by omega) (by omega), e]; rfl
  have h2 : roles x.op = [114, 45, 45] := by rw [e]; decide
  obtain ⟨r0, r1, r2, er, _, ha, hb, hc, h24, h25, h38⟩ := instr_parts hi
  rw [h2] at er
  simp only [List.cons.injEq, and_true] at er
  obtain ⟨rfl, rfl, rfl⟩ := er
  have hr := H.reg
  have hpar := H.par x.b
  simp [operandB, C.len] at ha hb hc
  clear h24 h25 h38
  refine ⟨fun pc m => ?_, ?_⟩
  · rw [mem_nonneg]
    unfold srcL rolesOf more
    rw [h1, h2]
    simp [srcOne, rd, e]
    first
      | done
      | omega
      | (by_cases c : 0 ≤ x.a <;> simp [c] <;> omega)
      | (by_cases c : 0 ≤ x.a <;> simp [c]; omega)
  refine ⟨fun m => ?_, ?_⟩
  · rw [mem_nonneg]
    unfold dstL rolesOf
    rw [h1, h2]
    simp [dstOne, wr]
    first
      | done
      | omega
      | (by_cases c : 0 ≤ x.a <;> simp [c] <;> omega)
      | (by_cases c : 0 ≤ x.a <;> by_cases c2 : 0 ≤ x.c <;> simp [c, c2] <;> omega)
  · intro q0 q1 q2 hq
    rw [h1] at hq
    simp only [List.cons.injEq, and_true] at hq
    obtain ⟨rfl, rfl, rfl⟩ := hq
    exact ⟨ask_none (by decide) (by decide) (by decide), ask_none (by decide) (by decide) (by decide), ask_none (by decide) (by decide) (by decide)⟩

theorem reg_43 {p : Pg} {f : Fc} {x : In} (H : Smooth p f) (hi : instrB p f x = true) (e : x.op = 43) : (∀ pc, SameR p f pc x) ∧ SameW x ∧ AskL p x := by
  have h1 : rolesP x = [115, 115, 45] := by rw [rolesP_in (by omega) (by omega), e]; rfl
  have h2 : roles x.op = [114, 114, 45] := by rw [e]; decide
  obtain ⟨r0, r1, r2, er, _, ha, hb, hc, h24, h25, h38⟩ := instr_parts hi
  rw [h2] at er
  simp only [List.cons.injEq, and_true] at er
  obtain ⟨rfl, rfl, rfl⟩ := er
  have hr := H.reg
  have hpar := H.par x.b
  simp [operandB, C.len] at ha hb hc
  clear h24 h25 h38
  refine ⟨fun pc m => ?_, ?_⟩
  · rw [mem_nonneg]
    unfold srcL rolesOf more
    rw [h1, h2]
    simp [srcOne, rd, e]
    first
      | done
      | omega
      | (by_cases c : 0 ≤ x.a <;> simp [c] <;> omega)
      | (by_cases c : 0 ≤ x.a <;> simp [c]; omega)
  refine ⟨fun m => ?_, ?_⟩
  · rw [mem_nonneg]
    unfold dstL rolesOf
    rw [h1, h2]
    simp [dstOne, wr]
    first
      | done
      | omega
      | (by_cases c : 0 ≤ x.a <;> simp [c] <;> omega)
      | (by_cases c : 0 ≤ x.a <;> by_cases c2 : 0 ≤ x.c <;> simp [c, c2] <;> omega)
  · intro q0 q1 q2 hq
    rw [h1] at hq
    simp only [List.cons.injEq, and_true] at hq
    obtain ⟨rfl, rfl, rfl⟩ := hq
    exact ⟨ask_none (by decide) (by decide) (by decide), ask_none (by decide) (by decide) (by decide), ask_none (by decide) (by decide) (by decide)⟩

theorem reg_44 {p : Pg} {f : Fc} {x : In} (H : Smooth p f) (hi : instrB p f x = true) (e : x.op = 44) : (∀ pc, SameR p f pc x) ∧ SameW x ∧ AskL p x := by
  have h1 : rolesP x = [115, 45, 45] := by rw [rolesP_in (by omega) (by omega), e]; rfl
  have h2 : roles x.op = [114, 45, 45] := by rw [e]; decide
  obtain ⟨r0, r1, r2, er, _, ha, hb, hc, h24, h25, h38⟩ := instr_parts hi
  rw [h2] at er
  simp only [List.cons.injEq, and_true] at er
  obtain ⟨rfl, rfl, rfl⟩ := er
  have hr := H.reg
  have hpar := H.par x.b
  simp [operandB, C.len] at ha hb hc
  clear h24 h25 h38
  refine ⟨fun pc m => ?_, ?_⟩
  · rw [mem_nonneg]
    unfold srcL rolesOf more
    rw [h1, h2]
    simp [srcOne, rd, e]
    first
      | done
      | omega
      | (by_cases c : 0 ≤ x.a <;> simp [c] <;> omega)
      | (by_cases c : 0 ≤ x.a <;> simp [c]; omega)
  refine ⟨fun m => ?_, ?_⟩
  · rw [mem_nonneg]
    unfold dstL rolesOf
    rw [h1, h2]
    simp [dstOne, wr]
    first
      | done
      | omega
      | (by_cases c : 0 ≤ x.a <;> simp [c] <;> omega)
      | (by_cases c : 0 ≤ x.a <;> by_cases c2 : 0 ≤ x.c <;> simp [c, c2] <;> omega)
  · intro q0 q1 q2 hq
    rw [h1] at hq
    simp only [List.cons.injEq, and_true] at hq
    obtain ⟨rfl, rfl, rfl⟩ := hq
    exact ⟨ask_none (by decide) (by decide) (by decide), ask_none (by decide) (by decide) (by decide), ask_none (by decide) (by decide) (by decide)⟩

theorem reg_45 {p : Pg} {f : Fc} {x : In} (H : Smooth p f) (hi : instrB p f x = true) (e : x.op = 45) : (∀ pc, SameR p f pc x) ∧ SameW x ∧ AskL p x := by
  have h1 : rolesP x = [115, 45, 116] := by rw [rolesP_in (by omega) (by omega), e]; rfl
  have h2 : roles x.op = [114, 45, 106] := by rw [e]; decide
  obtain ⟨r0, r1, r2, er, _, ha, hb, hc, h24, h25, h38⟩ := instr_parts hi
  rw [h2] at er
  simp only [List.cons.injEq, and_true] at er
  obtain ⟨rfl, rfl, rfl⟩ := er
  have hr := H.reg
  have hpar := H.par x.b
  simp [operandB, C.len] at ha hb hc
  clear h24 h25 h38
  refine ⟨fun pc m => ?_, ?_⟩
  · rw [mem_nonneg]
    unfold srcL rolesOf more
    rw [h1, h2]
    simp [srcOne, rd, e]
    first
      | done
      | omega
      | (by_cases c : 0 ≤ x.a <;> simp [c] <;> omega)
      | (by_cases c : 0 ≤ x.a <;> simp [c]; omega)
  refine ⟨fun m => ?_, ?_⟩
  · rw [mem_nonneg]
    unfold dstL rolesOf
    rw [h1, h2]
    simp [dstOne, wr]
    first
      | done
      | omega
      | (by_cases c : 0 ≤ x.a <;> simp [c] <;> omega)
      | (by_cases c : 0 ≤ x.a <;> by_cases c2 : 0 ≤ x.c <;> simp [c, c2] <;> omega)
  · intro q0 q1 q2 hq
    rw [h1] at hq
    simp only [List.cons.injEq, and_true] at hq
    obtain ⟨rfl, rfl, rfl⟩ := hq
    exact ⟨ask_none (by decide) (by decide) (by decide), ask_none (by decide) (by decide) (by decide), ask_none (by decide) (by decide) (by decide)⟩

theorem reg_46 {p : Pg} {f : Fc} {x : In} (H : Smooth p f) (hi : instrB p f x = true) (e : x.op = 46) : (∀ pc, SameR p f pc x) ∧ SameW x ∧ AskL p x := by
  have h1 : rolesP x = [115, 45, 45] := by rw [rolesP_in (by omega) (by omega), e]; rfl
  have h2 : roles x.op = [114, 45, 45] := by rw [e]; decide
  obtain ⟨r0, r1, r2, er, _, ha, hb, hc, h24, h25, h38⟩ := instr_parts hi
  rw [h2] at er
  simp only [List.cons.injEq, and_true] at er
  obtain ⟨rfl, rfl, rfl⟩ := er
  have hr := H.reg
  have hpar := H.par x.b
  simp [operandB, C.len] at ha hb hc
  clear h24 h25 h38
  refine ⟨fun pc m => ?_, ?_⟩
  · rw [mem_nonneg]
    unfold srcL rolesOf more
    rw [h1, h2]
    simp [srcOne, rd, e]
    first
      | done
      | omega
      | (by_cases c : 0 ≤ x.a <;> simp [c] <;> omega)
      | (by_cases c : 0 ≤ x.a <;> simp [c]; omega)
  refine ⟨fun m => ?_, ?_⟩
  · rw [mem_nonneg]
    unfold dstL rolesOf
    rw [h1, h2]
    simp [dstOne, wr]
    first
      | done
      | omega
      | (by_cases c : 0 ≤ x.a <;> simp [c] <;> omega)
      | (by_cases c : 0 ≤ x.a <;> by_cases c2 : 0 ≤ x.c <;> simp [c, c2] <;> omega)
  · intro q0 q1 q2 hq
    rw [h1] at hq
    simp only [List.cons.injEq, and_true] at hq
    obtain ⟨rfl, rfl, rfl⟩ := hq
    exact ⟨ask_none (by decide) (by decide) (by decide), ask_none (by decide) (by decide) (by decide), ask_none (by decide) (by decide) (by decide)⟩

theorem reg_47 {p : Pg} {f : Fc} {x : In} (H : Smooth p f) (hi : instrB p f x = true) (e : x.op = 47) : (∀ pc, SameR p f pc x) ∧ SameW x ∧ AskL p x := by
  have h1 : rolesP x = [115, 115, 45] := by rw [rolesP_in (by omega) (by omega), e]; rfl
  have h2 : roles x.op = [114, 114, 45] := by rw [e]; decide
  obtain ⟨r0, r1, r2, er, _, ha, hb, hc, h24, h25, h38⟩ := instr_parts hi
  rw [h2] at er
  simp only [List.cons.injEq, and_true] at er
  obtain ⟨rfl, rfl, rfl⟩ := er
  have hr := H.reg
  have hpar := H.par x.b
  simp [operandB, C.len] at ha hb hc
  clear h24 h25 h38
  refine ⟨fun pc m => ?_, ?_⟩
  · rw [mem_nonneg]
    unfold srcL rolesOf more
    rw [h1, h2]
    simp [srcOne, rd, e]
    first
      | done
      | omega
      | (by_cases c : 0 ≤ x.a <;> simp [c] <;> omega)
      | (by_cases c : 0 ≤ x.a <;> simp [c]; omega)
  refine ⟨fun m => ?_, ?_⟩
  · rw [mem_nonneg]
    unfold dstL rolesOf
    rw [h1, h2]
    simp [dstOne, wr]
    first
      | done
      | omega
      | (by_cases c : 0 ≤ x.a <;> simp [c] <;> omega)
      | (by_cases c : 0 ≤ x.a <;> by_cases c2 : 0 ≤ x.c <;> simp [c, c2] <;> omega)
  · intro q0 q1 q2 hq
    rw [h1] at hq
    simp only [List.cons.injEq, and_true] at hq
    obtain ⟨rfl, rfl, rfl⟩ := hq
    exact ⟨ask_none (by decide) (by decide) (by decide), ask_none (by decide) (by decide) (by decide), ask_none (by decide) (by decide) (by decide)⟩

theorem reg_48 {p : Pg} {f : Fc} {x : In} (H : Smooth p f) (hi : instrB p f x = true) (e : x.op = 48) : (∀ pc, SameR p f pc x) ∧ SameW x ∧ AskL p x := by
  have h1 : rolesP x = [68, 115, 68] := by rw [rolesP_in (by omega) (by omega), e]; rfl
  have h2 : roles x.op = [68, 114, 68] := by rw [e]; decide
  obtain ⟨r0, r1, r2, er, _, ha, hb, hc, h24, h25, h38⟩ := instr_parts hi
  rw [h2] at er
  simp only [List.cons.injEq, and_true] at er
  obtain ⟨rfl, rfl, rfl⟩ := er
  have hr := H.reg
  have hpar := H.par x.b
  simp [operandB, C.len] at ha hb hc
  clear h24 h25 h38
  refine ⟨fun pc m => ?_, ?_⟩
  · rw [mem_nonneg]
    unfold srcL rolesOf more
    rw [h1, h2]
    simp [srcOne, rd, e]
    first
      | done
      | omega
      | (by_cases c : 0 ≤ x.a <;> simp [c] <;> omega)
      | (by_cases c : 0 ≤ x.a <;> simp [c]; omega)
  refine ⟨fun m => ?_, ?_⟩
  · rw [mem_nonneg]
    unfold dstL rolesOf
    rw [h1, h2]
    simp [dstOne, wr]
    first
      | done
      | omega
      | (by_cases c : 0 ≤ x.a <;> simp [c] <;> omega)
      | (by_cases c : 0 ≤ x.a <;> by_cases c2 : 0 ≤ x.c <;> simp [c, c2] <;> omega)
  · intro q0 q1 q2 hq
    rw [h1] at hq
    simp only [List.cons.injEq, and_true] at hq
    obtain ⟨rfl, rfl, rfl⟩ := hq
    exact ⟨ask_none (by decide) (by decide) (by decide), ask_none (by decide) (by decide) (by decide), ask_none (by decide) (by decide) (by decide)⟩

theorem reg_49 {p : Pg} {f : Fc} {x : In} (H : Smooth p f) (hi : instrB p f x = true) (e : x.op = 49) : (∀ pc, SameR p f pc x) ∧ SameW x ∧ AskL p x := by
  have h1 : rolesP x = [115, 45, 45] := by rw [rolesP_in (by omega) (by omega), e]; rfl
  have h2 : roles x.op = [114, 45, 45] := by rw [e]; decide
  obtain ⟨r0, r1, r2, er, _, ha, hb, hc, h24, h25, h38⟩ := instr_parts hi
  rw [h2] at er
  simp only [List.cons.injEq, and_true] at er
  obtain ⟨rfl, rfl, rfl⟩ := er
  have hr := H.reg
  have hpar := H.par x.b
  simp [operandB, C.len] at ha hb hc
  clear h24 h25 h38
  refine ⟨fun pc m => ?_, ?_⟩
  · rw [mem_nonneg]
    unfold srcL rolesOf more
    rw [h1, h2]
    simp [srcOne, rd, e]
    first
      | done
      | omega
      | (by_cases c : 0 ≤ x.a <;> simp [c] <;> omega)
      | (by_cases c : 0 ≤ x.a <;> simp [c]; omega)
  refine ⟨fun m => ?_, ?_⟩
  · rw [mem_nonneg]
    unfold dstL rolesOf
    rw [h1, h2]
    simp [dstOne, wr]
    first
      | done
      | omega
      | (by_cases c : 0 ≤ x.a <;> simp [c] <;> omega)
      | (by_cases c : 0 ≤ x.a <;> by_cases c2 : 0 ≤ x.c <;> simp [c, c2] <;> omega)
  · intro q0 q1 q2 hq
    rw [h1] at hq
    simp only [List.cons.injEq, and_true] at hq
    obtain ⟨rfl, rfl, rfl⟩ := hq
    exact ⟨ask_none (by decide) (by decide) (by decide), ask_none (by decide) (by decide) (by decide), ask_none (by decide) (by decide) (by decide)⟩

theorem reg_50 {p : Pg} {f : Fc} {x : In} (H : Smooth p f) (hi : instrB p f x = true) (e : x.op = 50) : SameW x ∧ AskL p x := by
  have h1 : rolesP x = [100, 99, 98] := by rw [rolesP_in (by omega) (by omega), e]; rfl
  have h2 : roles x.op = [100, 115, 98] := by rw [e]; decide
  obtain ⟨r0, r1, r2, er, _, ha, hb, hc, h24, h25, h38⟩ := instr_parts hi
  rw [h2] at er
  simp only [List.cons.injEq, and_true] at er
  obtain ⟨rfl, rfl, rfl⟩ := er
  have hr := H.reg
  have hpar := H.par x.b
  simp [operandB, C.len] at ha hb hc
  clear h24 h25 h38
  refine ⟨fun m => ?_, ?_⟩
  · rw [mem_nonneg]
    unfold dstL rolesOf
    rw [h1, h2]
    simp [dstOne, wr]
    first
      | done
      | omega
      | (by_cases c : 0 ≤ x.a <;> simp [c] <;> omega)
      | (by_cases c : 0 ≤ x.a <;> by_cases c2 : 0 ≤ x.c <;> simp [c, c2] <;> omega)
  · intro q0 q1 q2 hq
    rw [h1] at hq
    simp only [List.cons.injEq, and_true] at hq
    obtain ⟨rfl, rfl, rfl⟩ := hq
    exact ⟨ask_none (by decide) (by decide) (by decide), ask_none (by decide) (by decide) (by decide), ask_none (by decide) (by decide) (by decide)⟩

theorem reg_52 {p : Pg} {f : Fc} {x : In} (H : Smooth p f) (hi : instrB p f x = true) (e : x.op = 52) : (∀ pc, SameR p f pc x) ∧ SameW x ∧ AskL p x := by
  have h1 : rolesP x = [115, 45, 45] := by rw [rolesP_in (by omega) (by omega), e]; rfl
  have h2 : roles x.op = [114, 45, 45] := by rw [e]; decide
  obtain ⟨r0, r1, r2, er, _, ha, hb, hc, h24, h25, h38⟩ := instr_parts hi
  rw [h2] at er
  simp only [List.cons.injEq, and_true] at er
  obtain ⟨rfl, rfl, rfl⟩ := er
  have hr := H.reg
  have hpar := H.par x.b
  simp [operandB, C.len] at ha hb hc
  clear h24 h25 h38
  refine ⟨fun pc m => ?_, ?_⟩
  · rw [mem_nonneg]
    unfold srcL rolesOf more
    rw [h1, h2]
    simp [srcOne, rd, e]
    first
      | done
      | omega
      | (by_cases c : 0 ≤ x.a <;> simp [c] <;> omega)
      | (by_cases c : 0 ≤ x.a <;> simp [c]; omega)
  refine ⟨fun m => ?_, ?_⟩
  · rw [mem_nonneg]
    unfold dstL rolesOf
    rw [h1, h2]
    simp [dstOne, wr]
    first
      | done
      | omega
      | (by_cases c : 0 ≤ x.a <;> simp [c] <;> omega)
      | (by_cases c : 0 ≤ x.a <;> by_cases c2 : 0 ≤ x.c <;> simp [c, c2] <;> omega)
  · intro q0 q1 q2 hq
    rw [h1] at hq
    simp only [List.cons.injEq, and_true] at hq
    obtain ⟨rfl, rfl, rfl⟩ := hq
    exact ⟨ask_none (by decide) (by decide) (by decide), ask_none (by decide) (by decide) (by decide), ask_none (by decide) (by decide) (by decide)⟩

/-- A case: what the program lists is what the specification lists. -/
theorem reg_51 {p : Pg} {f : Fc} {x : In} (hi : instrB p f x = true) (e : x.op = 51) : nonneg (srcL p x) = caseRd x ∧ (srcL p x) = caseRd x ∧ AskL p x := by
  have h2 : roles x.op = [114, 98, 99] := by rw [e]; decide
  obtain ⟨r0, r1, r2, er, _, ha, hb, hc, h24, h25, h38⟩ := instr_parts hi
  rw [h2] at er
  simp only [List.cons.injEq, and_true] at er
  obtain ⟨rfl, rfl, rfl⟩ := er
  simp [operandB, C.len] at ha hb hc
  by_cases c : x.b = 1
  · have h1 : rolesP x = [115, 98, 115] := by unfold rolesP; rw [if_neg (by omega), if_pos ⟨e, c⟩]
    have h3 : srcL p x = caseRd x := by unfold srcL caseRd; rw [h1, if_pos c]; simp [srcOne]
    refine ⟨?_, h3, ?_⟩
    · rw [h3]; unfold nonneg caseRd; rw [if_pos c]; simp; omega
    · intro q0 q1 q2 hq
      rw [h1] at hq
      simp only [List.cons.injEq, and_true] at hq
      obtain ⟨rfl, rfl, rfl⟩ := hq
      exact ⟨ask_none (by decide) (by decide) (by decide), ask_none (by decide) (by decide) (by decide), ask_none (by decide) (by decide) (by decide)⟩
  · have h1 : rolesP x = [115, 98, 68] := by rw [rolesP_in (by omega) (by omega), e]; rfl
    have h3 : srcL p x = caseRd x := by unfold srcL caseRd; rw [h1, if_neg c]; simp [srcOne]
    refine ⟨?_, h3, ?_⟩
    · rw [h3]; unfold nonneg caseRd; rw [if_neg c]; simp; omega
    · intro q0 q1 q2 hq
      rw [h1] at hq
      simp only [List.cons.injEq, and_true] at hq
      obtain ⟨rfl, rfl, rfl⟩ := hq
      exact ⟨ask_none (by decide) (by decide) (by decide), ask_none (by decide) (by decide) (by decide), ask_none (by decide) (by decide) (by decide)⟩
theorem op_range {p : Pg} {f : Fc} {x : In} (hi : instrB p f x = true) : 1 ≤ x.op ∧ x.op ≤ 52 := by
  obtain ⟨r0, r1, r2, er, _⟩ := instr_parts hi
  by_cases h : x.op < 0 ∨ 53 ≤ x.op ∨ x.op = 0
  · rw [roles_out h] at er; cases er
  · omega
theorem reg_all {p : Pg} {f : Fc} {x : In} (H : Smooth p f) (hi : instrB p f x = true) : (¬ x.op = 50 → ¬ x.op = 51 → ∀ pc, SameR p f pc x) ∧ (¬ x.op = 51 → SameW x) ∧ AskL p x := by
  have h := op_range hi
  rcases Decidable.em (x.op = 1) with e | e1
  · exact ⟨fun _ _ => (reg_1 H hi e).1, fun _ => (reg_1 H hi e).2.1, (reg_1 H hi e).2.2⟩
  rcases Decidable.em (x.op = 2) with e | e2
  · exact ⟨fun _ _ => (reg_2 H hi e).1, fun _ => (reg_2 H hi e).2.1, (reg_2 H hi e).2.2⟩
  rcases Decidable.em (x.op = 3) with e | e3
  · exact ⟨fun _ _ => (reg_3 H hi e).1, fun _ => (reg_3 H hi e).2.1, (reg_3 H hi e).2.2⟩
  rcases Decidable.em (x.op = 4) with e | e4
  · exact ⟨fun _ _ => (reg_4 H hi e).1, fun _ => (reg_4 H hi e).2.1, (reg_4 H hi e).2.2⟩
  rcases Decidable.em (x.op = 5) with e | e5
  · exact ⟨fun _ _ => (reg_5 H hi e).1, fun _ => (reg_5 H hi e).2.1, (reg_5 H hi e).2.2⟩
  rcases Decidable.em (x.op = 6) with e | e6
  · exact ⟨fun _ _ => (reg_6 H hi e).1, fun _ => (reg_6 H hi e).2.1, (reg_6 H hi e).2.2⟩
  rcases Decidable.em (x.op = 7) with e | e7
  · exact ⟨fun _ _ => (reg_7 H hi e).1, fun _ => (reg_7 H hi e).2.1, (reg_7 H hi e).2.2⟩
  rcases Decidable.em (x.op = 8) with e | e8
  · exact ⟨fun _ _ => (reg_8 H hi e).1, fun _ => (reg_8 H hi e).2.1, (reg_8 H hi e).2.2⟩
  rcases Decidable.em (x.op = 9) with e | e9
  · exact ⟨fun _ _ => (reg_9 H hi e).1, fun _ => (reg_9 H hi e).2.1, (reg_9 H hi e).2.2⟩
  rcases Decidable.em (x.op = 10) with e | e10
  · exact ⟨fun _ _ => (reg_10 H hi e).1, fun _ => (reg_10 H hi e).2.1, (reg_10 H hi e).2.2⟩
  rcases Decidable.em (x.op = 11) with e | e11
  · exact ⟨fun _ _ => (reg_11 H hi e).1, fun _ => (reg_11 H hi e).2.1, (reg_11 H hi e).2.2⟩
  rcases Decidable.em (x.op = 12) with e | e12
  · exact ⟨fun _ _ => (reg_12 H hi e).1, fun _ => (reg_12 H hi e).2.1, (reg_12 H hi e).2.2⟩
  rcases Decidable.em (x.op = 13) with e | e13
  · exact ⟨fun _ _ => (reg_13 H hi e).1, fun _ => (reg_13 H hi e).2.1, (reg_13 H hi e).2.2⟩
  rcases Decidable.em (x.op = 14) with e | e14
  · exact ⟨fun _ _ => (reg_14 H hi e).1, fun _ => (reg_14 H hi e).2.1, (reg_14 H hi e).2.2⟩
  rcases Decidable.em (x.op = 15) with e | e15
  · exact ⟨fun _ _ => (reg_15 H hi e).1, fun _ => (reg_15 H hi e).2.1, (reg_15 H hi e).2.2⟩
  rcases Decidable.em (x.op = 16) with e | e16
  · exact ⟨fun _ _ => (reg_16 H hi e).1, fun _ => (reg_16 H hi e).2.1, (reg_16 H hi e).2.2⟩
  rcases Decidable.em (x.op = 17) with e | e17
  · exact ⟨fun _ _ => (reg_17 H hi e).1, fun _ => (reg_17 H hi e).2.1, (reg_17 H hi e).2.2⟩
  rcases Decidable.em (x.op = 18) with e | e18
  · exact ⟨fun _ _ => (reg_18 H hi e).1, fun _ => (reg_18 H hi e).2.1, (reg_18 H hi e).2.2⟩
  rcases Decidable.em (x.op = 19) with e | e19
  · exact ⟨fun _ _ => (reg_19 H hi e).1, fun _ => (reg_19 H hi e).2.1, (reg_19 H hi e).2.2⟩
  rcases Decidable.em (x.op = 20) with e | e20
  · exact ⟨fun _ _ => (reg_20 H hi e).1, fun _ => (reg_20 H hi e).2.1, (reg_20 H hi e).2.2⟩
  rcases Decidable.em (x.op = 21) with e | e21
  · exact ⟨fun _ _ => (reg_21 H hi e).1, fun _ => (reg_21 H hi e).2.1, (reg_21 H hi e).2.2⟩
  rcases Decidable.em (x.op = 22) with e | e22
  · exact ⟨fun _ _ => (reg_22 H hi e).1, fun _ => (reg_22 H hi e).2.1, (reg_22 H hi e).2.2⟩
  rcases Decidable.em (x.op = 23) with e | e23
  · exact ⟨fun _ _ => (reg_23 H hi e).1, fun _ => (reg_23 H hi e).2.1, (reg_23 H hi e).2.2⟩
  rcases Decidable.em (x.op = 24) with e | e24
  · exact ⟨fun _ _ => (reg_24 H hi e).1, fun _ => (reg_24 H hi e).2.1, (reg_24 H hi e).2.2⟩
  rcases Decidable.em (x.op = 25) with e | e25
  · exact ⟨fun _ _ => (reg_25 H hi e).1, fun _ => (reg_25 H hi e).2.1, (reg_25 H hi e).2.2⟩
  rcases Decidable.em (x.op = 26) with e | e26
  · exact ⟨fun _ _ => (reg_26 H hi e).1, fun _ => (reg_26 H hi e).2.1, (reg_26 H hi e).2.2⟩
  rcases Decidable.em (x.op = 27) with e | e27
  · exact ⟨fun _ _ => (reg_27 H hi e).1, fun _ => (reg_27 H hi e).2.1, (reg_27 H hi e).2.2⟩
  rcases Decidable.em (x.op = 28) with e | e28
  · exact ⟨fun _ _ => (reg_28 H hi e).1, fun _ => (reg_28 H hi e).2.1, (reg_28 H hi e).2.2⟩
  rcases Decidable.em (x.op = 29) with e | e29
  · exact ⟨fun _ _ => (reg_29 H hi e).1, fun _ => (reg_29 H hi e).2.1, (reg_29 H hi e).2.2⟩
  rcases Decidable.em (x.op = 30) with e | e30
  · exact ⟨fun _ _ => (reg_30 H hi e).1, fun _ => (reg_30 H hi e).2.1, (reg_30 H hi e).2.2⟩
  rcases Decidable.em (x.op = 31) with e | e31
  · exact ⟨fun _ _ => (reg_31 H hi e).1, fun _ => (reg_31 H hi e).2.1, (reg_31 H hi e).2.2⟩
  rcases Decidable.em (x.op = 32) with e | e32
  · exact ⟨fun _ _ => (reg_32 H hi e).1, fun _ => (reg_32 H hi e).2.1, (reg_32 H hi e).2.2⟩
  rcases Decidable.em (x.op = 33) with e | e33
  · exact ⟨fun _ _ => (reg_33 H hi e).1, fun _ => (reg_33 H hi e).2.1, (reg_33 H hi e).2.2⟩
  rcases Decidable.em (x.op = 34) with e | e34
  · exact ⟨fun _ _ => (reg_34 H hi e).1, fun _ => (reg_34 H hi e).2.1, (reg_34 H hi e).2.2⟩
  rcases Decidable.em (x.op = 35) with e | e35
  · exact ⟨fun _ _ => (reg_35 H hi e).1, fun _ => (reg_35 H hi e).2.1, (reg_35 H hi e).2.2⟩
  rcases Decidable.em (x.op = 36) with e | e36
  · exact ⟨fun _ _ => (reg_36 H hi e).1, fun _ => (reg_36 H hi e).2.1, (reg_36 H hi e).2.2⟩
  rcases Decidable.em (x.op = 37) with e | e37
  · exact ⟨fun _ _ => (reg_37 H hi e).1, fun _ => (reg_37 H hi e).2.1, (reg_37 H hi e).2.2⟩
  rcases Decidable.em (x.op = 38) with e | e38
  · exact ⟨fun _ _ => (reg_38 H hi e).1, fun _ => (reg_38 H hi e).2.1, (reg_38 H hi e).2.2⟩
  rcases Decidable.em (x.op = 39) with e | e39
  · exact ⟨fun _ _ => (reg_39 H hi e).1, fun _ => (reg_39 H hi e).2.1, (reg_39 H hi e).2.2⟩
  rcases Decidable.em (x.op = 40) with e | e40
  · exact ⟨fun _ _ => (reg_40 H hi e).1, fun _ => (reg_40 H hi e).2.1, (reg_40 H hi e).2.2⟩
  rcases Decidable.em (x.op = 41) with e | e41
  · exact ⟨fun _ _ => (reg_41 H hi e).1, fun _ => (reg_41 H hi e).2.1, (reg_41 H hi e).2.2⟩
  rcases Decidable.em (x.op = 42) with e | e42
  · exact ⟨fun _ _ => (reg_42 H hi e).1, fun _ => (reg_42 H hi e).2.1, (reg_42 H hi e).2.2⟩
  rcases Decidable.em (x.op = 43) with e | e43
  · exact ⟨fun _ _ => (reg_43 H hi e).1, fun _ => (reg_43 H hi e).2.1, (reg_43 H hi e).2.2⟩
  rcases Decidable.em (x.op = 44) with e | e44
  · exact ⟨fun _ _ => (reg_44 H hi e).1, fun _ => (reg_44 H hi e).2.1, (reg_44 H hi e).2.2⟩
  rcases Decidable.em (x.op = 45) with e | e45
  · exact ⟨fun _ _ => (reg_45 H hi e).1, fun _ => (reg_45 H hi e).2.1, (reg_45 H hi e).2.2⟩
  rcases Decidable.em (x.op = 46) with e | e46
  · exact ⟨fun _ _ => (reg_46 H hi e).1, fun _ => (reg_46 H hi e).2.1, (reg_46 H hi e).2.2⟩
  rcases Decidable.em (x.op = 47) with e | e47
  · exact ⟨fun _ _ => (reg_47 H hi e).1, fun _ => (reg_47 H hi e).2.1, (reg_47 H hi e).2.2⟩
  rcases Decidable.em (x.op = 48) with e | e48
  · exact ⟨fun _ _ => (reg_48 H hi e).1, fun _ => (reg_48 H hi e).2.1, (reg_48 H hi e).2.2⟩
  rcases Decidable.em (x.op = 49) with e | e49
  · exact ⟨fun _ _ => (reg_49 H hi e).1, fun _ => (reg_49 H hi e).2.1, (reg_49 H hi e).2.2⟩
  rcases Decidable.em (x.op = 50) with e | e50
  · exact ⟨fun h => absurd e h, fun _ => (reg_50 H hi e).1, (reg_50 H hi e).2⟩
  rcases Decidable.em (x.op = 51) with e | e51
  · exact ⟨fun _ h => absurd e h, fun h => absurd e h, (reg_51 hi e).2.2⟩
  rcases Decidable.em (x.op = 52) with e | e52
  · exact ⟨fun _ _ => (reg_52 H hi e).1, fun _ => (reg_52 H hi e).2.1, (reg_52 H hi e).2.2⟩
  omega
end Go.Proofs.YtekfhgldebhigaaDoor
