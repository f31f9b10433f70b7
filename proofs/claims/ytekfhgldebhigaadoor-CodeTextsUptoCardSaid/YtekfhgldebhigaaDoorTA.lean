/-
  The text of a program (chapter 9): plain mathematics. No program text is reached here.
-/
import Derived.Test.YtekfhgldebhigaaDoorMA
import Derived.Lib.ItoaMem
set_option linter.all false
namespace Go.Proofs.YtekfhgldebhigaaDoor.C
open Go Go.RowKit

/-- The words of the operations, by their numbers. -/
def words : List Bs := [[], [99, 111, 110, 115, 116], [110, 105, 108], [109, 111, 118, 101], [97, 100, 100], [115, 117, 98], [109, 117, 108], [100, 105, 118], [114, 101, 109], [110, 101, 103], [110, 111, 116], [101, 113], [110, 101], [108, 116], [108, 101], [108, 101, 110], [106, 117, 109, 112], [106, 117, 109, 112, 122], [103, 108, 111, 98, 97, 108], [102, 105, 101, 108, 100], [105, 110, 100, 101, 120], [110, 101, 119], [115, 108, 105, 99, 101], [99, 104, 97, 110], [99, 108, 111, 115, 117, 114, 101], [99, 97, 112], [99, 97, 108, 108], [99, 97, 108, 108, 99], [100, 101, 102, 101, 114], [100, 101, 102, 101, 114, 99], [114, 101, 116, 117, 114, 110], [103, 111], [103, 111, 99], [108, 111, 97, 100], [115, 116, 111, 114, 101], [97, 108, 111, 97, 100], [97, 115, 116, 111, 114, 101], [97, 97, 100, 100], [97, 99, 97, 115], [108, 111, 99, 107], [117, 110, 108, 111, 99, 107], [114, 108, 111, 99, 107], [114, 117, 110, 108, 111, 99, 107], [103, 114, 111, 117, 112], [119, 97, 105, 116], [111, 110, 99, 101], [111, 110, 99, 101, 101, 110, 100], [115, 101, 110, 100], [114, 101, 99, 118], [99, 108, 111, 115, 101], [115, 101, 108, 101, 99, 116], [99, 97, 115, 101], [112, 114, 105, 110, 116]]
def wordT (op : Int) : Bs := if op < 0 ∨ 53 ≤ op then [] else words.getD op.toNat []
/-- Which operands are written: those that have a role. -/
def usedM : List Bool → In → List Int
  | [m0, m1, m2], x => (if m0 then [] else [x.a]) ++ ((if m1 then [] else [x.b]) ++ (if m2 then [] else [x.c]))
  | _, _ => []
def maskT (r : Bs) : List Bool := r.map (· == 45)
def usedT (x : In) : List Int := usedM (maskT (roles x.op)) x
def numsT (l : List Int) : Bs := l.flatMap fun n => 32 :: Lib.itoa n
def lineB : List Bs → Bs
  | [] => [10]
  | c :: cs => c ++ (cs.flatMap (fun x => 32 :: x) ++ [10])
def glL (g : Gl) : List Bs := [[103, 108, 111, 98, 97, 108], g.name.data.toList, Lib.itoa g.kind]
def lyL (l : List Int) : List Bs := [108, 97, 121, 111, 117, 116] :: l.map Lib.itoa
def fnL (f : Fc) : List Bs := [[102, 117, 110, 99], f.name.data.toList, Lib.itoa f.params, Lib.itoa f.regs]
def inL (k : Nat) (x : In) : List Bs := (9 :: Lib.itoa (k : Int)) :: wordT x.op :: (usedT x).map Lib.itoa
def codeLs : Nat → List In → List (List Bs)
  | _, [] => []
  | k, x :: l => inL k x :: codeLs (k + 1) l
def fnLs (f : Fc) : List (List Bs) := fnL f :: codeLs 0 f.code
def linesOf (p : Pg) : List (List Bs) := p.globals.map glL ++ (p.layouts.map lyL ++ p.funcs.flatMap fnLs)
def textT (p : Pg) : Bs := (linesOf p).flatMap lineB
def glT (g : Gl) : Bs := lineB (glL g)
def lyT (l : List Int) : Bs := lineB (lyL l)
def lineT (k : Nat) (x : In) : Bs := lineB (inL k x)
def codeT (k : Nat) (l : List In) : Bs := (codeLs k l).flatMap lineB
def fnT (f : Fc) : Bs := lineB (fnL f) ++ codeT 0 f.code
theorem textT_eq (p : Pg) : textT p = p.globals.flatMap glT ++ (p.layouts.flatMap lyT ++ p.funcs.flatMap fnT) := by
  unfold textT linesOf
  rw [List.flatMap_append, List.flatMap_append]
  congr 1
  · rw [List.flatMap_map]; rfl
  congr 1
  · rw [List.flatMap_map]; rfl
  · rw [List.flatMap_assoc]; rfl
theorem codeLs_snoc : ∀ (l : List In) (k : Nat) (x : In), codeLs k (l ++ [x]) = codeLs k l ++ [inL (k + l.length) x] := by
  intro l
  induction l with
  | nil => intro k x; rfl
  | cons a l ih =>
    intro k x
    show inL k a :: codeLs (k + 1) (l ++ [x]) = _
    rw [ih, List.length_cons, show k + 1 + l.length = k + (l.length + 1) by omega]
    rfl
theorem codeT_snoc (l : List In) (x : In) : codeT 0 (l ++ [x]) = codeT 0 l ++ lineT l.length x := by
  unfold codeT
  rw [codeLs_snoc, List.flatMap_append, Nat.zero_add]
  simp [lineT]
theorem lineB_cons (c : Bs) (cs : List Bs) : lineB (c :: cs) = c ++ (cs.flatMap (fun x => 32 :: x) ++ [10]) := rfl
theorem numsT_map (l : List Int) : (l.map Lib.itoa).flatMap (fun x => 32 :: x) = numsT l := by rw [List.flatMap_map]; rfl
theorem glT_eq (g : Gl) : glT g = [103, 108, 111, 98, 97, 108, 32] ++ g.name.data.toList ++ numsT [g.kind] ++ [10] := by
  simp [glT, glL, lineB, numsT]
theorem lyT_eq (l : List Int) : lyT l = [108, 97, 121, 111, 117, 116] ++ numsT l ++ [10] := by
  unfold lyT lyL; rw [lineB_cons, numsT_map]; simp
theorem fnH_eq (f : Fc) : lineB (fnL f) = [102, 117, 110, 99, 32] ++ f.name.data.toList ++ numsT [f.params, f.regs] ++ [10] := by
  simp [fnL, lineB, numsT]
theorem lineT_eq (k : Nat) (x : In) : lineT k x = [9] ++ Lib.itoa (k : Int) ++ [32] ++ wordT x.op ++ numsT (usedT x) ++ [10] := by
  unfold lineT inL; rw [lineB_cons, List.flatMap_cons, numsT_map]; simp
theorem numsT_snoc (l : List Int) (n : Int) : numsT (l ++ [n]) = numsT l ++ (32 :: Lib.itoa n) := by simp [numsT, List.flatMap_append]
/-! ### how long -/
theorem nDigits_le {u k : Nat} (h : u < 10 ^ (k + 1)) : Lib.nDigits u ≤ k + 1 := by
  induction k generalizing u with
  | zero => rw [Lib.nDigits_small (by simpa using h)]; exact Nat.le_refl _
  | succ k ih =>
    by_cases hu : u < 10
    · rw [Lib.nDigits_small hu]; omega
    · rw [Lib.nDigits_big hu]
      have := ih (u := u / 10) (by rw [Nat.pow_succ] at h; omega)
      omega
theorem itoa_len {n : Int} (h : -9223372036854775808 ≤ n ∧ n ≤ 9223372036854775807) : (Lib.itoa n).length ≤ 21 := by
  have hp : (10 : Nat) ^ (19 + 1) = 100000000000000000000 := by decide
  unfold Lib.itoa
  by_cases h0 : n < 0
  · rw [if_pos h0, List.length_cons, Lib.decDigits_length]
    have := nDigits_le (u := n.natAbs) (k := 19) (by omega)
    omega
  · rw [if_neg h0, Lib.decDigits_length]
    have := nDigits_le (u := n.toNat) (k := 19) (by omega)
    omega
theorem numsT_len {l : List Int} (h : ∀ n ∈ l, -9223372036854775808 ≤ n ∧ n ≤ 9223372036854775807) : (numsT l).length ≤ 22 * l.length := by
  induction l with
  | nil => exact Nat.le_refl _
  | cons a l ih =>
    have h1 := itoa_len (h a List.mem_cons_self)
    have h2 := ih fun n hn => h n (List.mem_cons_of_mem _ hn)
    unfold numsT at h2 ⊢
    rw [List.flatMap_cons, List.length_append, List.length_cons, List.length_cons]; omega
theorem word_len (op : Int) : (wordT op).length ≤ 7 := by
  unfold wordT
  by_cases h : op < 0 ∨ 53 ≤ op
  · rw [if_pos h]; exact Nat.zero_le _
  · rw [if_neg h]
    have key : ∀ i : Fin 53, (words.getD i.val []).length ≤ 7 := by decide
    exact key ⟨op.toNat, by omega⟩
theorem used_mem (x : In) {n : Int} (h : n ∈ usedT x) : n = x.a ∨ n = x.b ∨ n = x.c := by
  unfold usedT at h
  generalize maskT (roles x.op) = m at h
  rcases m with _ | ⟨m0, _ | ⟨m1, _ | ⟨m2, _ | ⟨m3, r⟩⟩⟩⟩
  all_goals simp only [usedM] at h
  · cases h
  · cases h
  · cases h
  · cases m0 <;> cases m1 <;> cases m2 <;> simp at h <;> omega
  · cases h
theorem used_len (x : In) : (usedT x).length ≤ 3 := by
  unfold usedT
  generalize maskT (roles x.op) = m
  rcases m with _ | ⟨m0, _ | ⟨m1, _ | ⟨m2, _ | ⟨m3, r⟩⟩⟩⟩
  all_goals simp only [usedM]
  · exact Nat.zero_le _
  · exact Nat.zero_le _
  · exact Nat.zero_le _
  · cases m0 <;> cases m1 <;> cases m2 <;> simp
  · exact Nat.zero_le _
def I3 (x : In) : Prop := (-9223372036854775808 ≤ x.a ∧ x.a ≤ 9223372036854775807) ∧ (-9223372036854775808 ≤ x.b ∧ x.b ≤ 9223372036854775807) ∧ (-9223372036854775808 ≤ x.c ∧ x.c ≤ 9223372036854775807)
theorem used_i64 {x : In} (h : I3 x) : ∀ n ∈ usedT x, -9223372036854775808 ≤ n ∧ n ≤ 9223372036854775807 := by
  intro n hn
  rcases used_mem x hn with rfl | rfl | rfl
  · exact h.1
  · exact h.2.1
  · exact h.2.2
theorem lineT_len {k : Nat} {x : In} (hk : k ≤ 9223372036854775807) (h : I3 x) : (lineT k x).length ≤ 100 := by
  rw [lineT_eq]
  have h1 := itoa_len (n := (k : Int)) (by omega)
  have h2 := word_len x.op
  have h3 := numsT_len (used_i64 h)
  have h4 := used_len x
  simp only [List.length_append, List.length_cons, List.length_nil]
  omega
theorem glT_len {g : Gl} (h : -9223372036854775808 ≤ g.kind ∧ g.kind ≤ 9223372036854775807) : (glT g).length ≤ g.name.size + 30 := by
  rw [glT_eq]
  have h1 := numsT_len (l := [g.kind]) (by intro n hn; obtain rfl : n = g.kind := by simpa using hn
                                           exact h)
  have hl : g.name.data.toList.length = g.name.size := Array.length_toList
  simp only [List.length_append, List.length_cons, List.length_nil] at h1 ⊢
  omega
theorem lyT_len {l : List Int} (h : ∀ n ∈ l, -9223372036854775808 ≤ n ∧ n ≤ 9223372036854775807) : (lyT l).length ≤ 22 * l.length + 7 := by
  rw [lyT_eq]
  have h1 := numsT_len h
  simp only [List.length_append, List.length_cons, List.length_nil]
  omega
theorem fnH_len {f : Fc} (h1 : -9223372036854775808 ≤ f.params ∧ f.params ≤ 9223372036854775807) (h2 : -9223372036854775808 ≤ f.regs ∧ f.regs ≤ 9223372036854775807) : (lineB (fnL f)).length ≤ f.name.size + 50 := by
  rw [fnH_eq]
  have h3 := numsT_len (l := [f.params, f.regs]) (by intro n hn; rcases (by simpa using hn : n = f.params ∨ n = f.regs) with e | e; (rw [e]; exact h1); (rw [e]; exact h2))
  have hl : f.name.data.toList.length = f.name.size := Array.length_toList
  simp only [List.length_append, List.length_cons, List.length_nil] at h3 ⊢
  omega
/-! ### steps of the loops -/
theorem flat_take {α : Type} (f : α → Bs) {l : List α} {k : Nat} (h : k < l.length) : (l.take (k + 1)).flatMap f = (l.take k).flatMap f ++ f l[k] := by
  rw [List.take_succ_eq_append_getElem h, List.flatMap_append]; simp
theorem codeT_take {l : List In} {k : Nat} (h : k < l.length) : codeT 0 (l.take (k + 1)) = codeT 0 (l.take k) ++ lineT k l[k] := by
  rw [List.take_succ_eq_append_getElem h, codeT_snoc, List.length_take, Nat.min_eq_left (by omega)]
theorem numsT_take {l : List Int} {k : Nat} (h : k < l.length) : numsT (l.take (k + 1)) = numsT (l.take k) ++ (32 :: Lib.itoa l[k]) := flat_take _ h
theorem flat_len {α : Type} {f : α → Bs} {g : α → Nat} {l : List α} (h : ∀ x ∈ l, (f x).length ≤ g x) (k : Nat) : ((l.take k).flatMap f).length ≤ (l.map g).sum := by
  induction l generalizing k with
  | nil => simp
  | cons a l ih =>
    cases k with
    | zero => simp
    | succ k =>
      have h1 := h a List.mem_cons_self
      have h2 := ih (fun x hx => h x (List.mem_cons_of_mem _ hx)) k
      rw [List.take_succ_cons, List.flatMap_cons, List.length_append, List.map_cons, List.sum_cons]; omega
theorem codeT_len {l : List In} (h : ∀ x ∈ l, I3 x) (hl : l.length ≤ 9223372036854775807) (k : Nat) : (codeT 0 (l.take k)).length ≤ 100 * l.length := by
  suffices H : ∀ (l : List In) (j : Nat), (∀ x ∈ l, I3 x) → j + l.length ≤ 9223372036854775807 → (codeT j l).length ≤ 100 * l.length by
    refine Nat.le_trans (H (l.take k) 0 (fun x hx => h x (List.mem_of_mem_take hx)) (by rw [List.length_take]; omega)) ?_
    rw [List.length_take]; omega
  intro l
  induction l with
  | nil => intro j _ _; exact Nat.le_refl _
  | cons a l ih =>
    intro j h hj
    rw [List.length_cons] at hj ⊢
    have h1 := lineT_len (k := j) (by omega) (h a List.mem_cons_self)
    have h2 := ih (j + 1) (fun x hx => h x (List.mem_cons_of_mem _ hx)) (by omega)
    show (lineB (inL j a) ++ codeT (j + 1) l).length ≤ _
    rw [List.length_append]
    unfold lineT at h1
    omega
end Go.Proofs.YtekfhgldebhigaaDoor.C
