/-
  Plain mathematics of permitted programs: what is read and written lies below the number of registers; what follows exists. No program text is reached here.
-/
import Derived.Test.YtekfhgldebhigaaDoorMA
set_option linter.all false
namespace Go.Proofs.YtekfhgldebhigaaDoor.C
open Go Go.RowKit

def leftAt (l : Int) (code : List In) (i : Nat) : Int := (code.take i).foldl after l
theorem leftAt_zero (l : Int) (code : List In) : leftAt l code 0 = l := by simp [leftAt]
theorem leftAt_succ (l : Int) (code : List In) (i : Nat) (h : i < code.length) : leftAt l code (i + 1) = after (leftAt l code i) code[i] := by
  unfold leftAt
  rw [List.take_succ_eq_append_getElem h, List.foldl_append]; rfl
theorem seq_at (p : Pg) (f : Fc) : ∀ (code : List In) (l : Int), seqB p f l code = true → ∀ i (h : i < code.length), instrB p f code[i] = true ∧ (0 < leftAt l code i ↔ code[i].op = 51)
  | [], _, _, i, h => by simp at h
  | x :: r, l, hs, i, h => by
    unfold seqB at hs
    simp only [Bool.and_eq_true, beq_iff_eq] at hs
    obtain ⟨⟨h1, h2⟩, h3⟩ := hs
    cases i with
    | zero => exact ⟨h2, by rw [leftAt_zero]; simpa using h1⟩
    | succ i =>
      have := seq_at p f r (after l x) h3 i (by simpa using h)
      have e : leftAt l (x :: r) (i + 1) = leftAt (after l x) r i := by simp [leftAt]
      rw [e]
      simpa using this
structure FnOk (p : Pg) (f : Fc) : Prop where
  name : ¬ f.name.data.toList = []
  par : 0 ≤ f.params ∧ f.params ≤ f.regs ∧ f.regs ≤ 64
  len : 0 < f.code.length ∧ f.code.length ≤ 1000
  last : (f.code.getLast?.getD default).op = 30 ∨ (f.code.getLast?.getD default).op = 16
  seq : seqB p f 0 f.code = true
theorem fn_ok {p : Pg} {f : Fc} (h : functionB p f = true) : FnOk p f := by
  unfold functionB at h
  simp only [Bool.and_eq_true, decide_eq_true_eq] at h
  exact ⟨h.1.1.1, ⟨h.1.1.2.1, h.1.1.2.2.1, h.1.1.2.2.2.1⟩, ⟨h.1.1.2.2.2.2.1, h.1.1.2.2.2.2.2⟩, h.1.2, h.2⟩
theorem valid_fn {p : Pg} (hv : validB p = true) {f : Fc} (hf : f ∈ p.funcs) : FnOk p f := by
  unfold validB at hv
  simp only [Bool.and_eq_true] at hv
  exact fn_ok (List.all_eq_true.1 hv.1.2 f hf)
theorem getD_mem {α : Type} [Inhabited α] {l : List α} {v : Int} (h : 0 ≤ v ∧ v < len l) : l.getD v.toNat default ∈ l := by
  unfold len at h
  have : v.toNat < l.length := by omega
  rw [List.getD_eq_getElem?_getD, List.getElem?_eq_getElem this]
  exact List.getElem_mem this
theorem instr_parts {p : Pg} {f : Fc} {x : In} (h : instrB p f x = true) : ∃ r0 r1 r2, roles x.op = [r0, r1, r2] ∧ 0 ≤ x.at' ∧ operandB p f x r0 x.a = true ∧ operandB p f x r1 x.b = true ∧ operandB p f x r2 x.c = true ∧
    (x.op = 24 → x.a + x.c < f.regs ∧ x.c < 64) ∧ (x.op = 25 → x.b < 63 ∧ 0 < f.regs) ∧ (x.op = 38 → x.c + 1 < f.regs) := by
  unfold instrB at h
  split at h
  · rename_i r0 r1 r2 e
    simp only [Bool.and_eq_true, decide_eq_true_eq] at h
    obtain ⟨⟨⟨⟨h0, h1⟩, h2⟩, h3⟩, h4⟩ := h
    refine ⟨r0, r1, r2, e, h0, h1, h2, h3, fun e => ?_, fun e => ?_, fun e => ?_⟩
    · rw [if_pos e] at h4; simpa using h4
    · rw [if_neg (by omega), if_pos e] at h4; simpa using h4
    · rw [if_neg (by omega), if_neg (by omega)] at h4; simp at h4; omega
  · cases h
theorem rd_range {p : Pg} {f : Fc} {x : In} {r : UInt8} {v : Int} (h : operandB p f x r v = true) : ∀ n ∈ rd (r, v), 0 ≤ n ∧ n < f.regs := by
  intro n hn
  unfold rd at hn
  split at hn
  · rename_i hc
    simp only [List.mem_singleton] at hn
    subst hn
    rcases hc with e | ⟨e, h0⟩
    · simp only at e; subst e; unfold operandB at h; rw [if_pos (.inr rfl)] at h; simpa using h
    · simp only at e h0; subst e; unfold operandB at h; rw [if_neg (by decide), if_pos (.inr rfl)] at h; simp at h; omega
  · cases hn
theorem wr_range {p : Pg} {f : Fc} {x : In} {r : UInt8} {v : Int} (h : operandB p f x r v = true) : ∀ n ∈ wr (r, v), 0 ≤ n ∧ n < f.regs := by
  intro n hn
  unfold wr at hn
  split at hn
  · rename_i hc
    simp only [List.mem_singleton] at hn
    subst hn
    obtain ⟨e | e, h0⟩ := hc
    · simp only at e; subst e; unfold operandB at h; rw [if_pos (.inl rfl)] at h; simpa using h
    · simp only at e h0; subst e; unfold operandB at h; rw [if_neg (by decide), if_pos (.inl rfl)] at h; simp at h; omega
  · cases hn
theorem up_mem {a : Int} {n : Nat} {x : Int} (h : x ∈ upFrom a n) : a ≤ x ∧ x < a + (n : Int) := by
  unfold upFrom at h
  obtain ⟨i, hi, rfl⟩ := List.mem_map.1 h
  rw [List.mem_range] at hi
  omega
/-- The cases behind a select. -/
theorem cases_at {p : Pg} {f : Fc} (H : FnOk p f) {pc : Nat} (h : pc < f.code.length) (e : f.code[pc].op = 50) : 0 ≤ f.code[pc].b ∧ ∀ j : Nat, (j : Int) ≤ f.code[pc].b → pc + 1 + j ≤ f.code.length →
    leftAt 0 f.code (pc + 1 + j) = f.code[pc].b - (j : Int) := by
  obtain ⟨hi, _⟩ := seq_at p f f.code 0 H.seq pc h
  obtain ⟨r0, r1, r2, er, _, _, hb, _⟩ := instr_parts hi
  rw [e] at er
  have e2 : roles 50 = [100, 115, 98] := by decide
  rw [e2] at er
  simp only [List.cons.injEq] at er
  obtain ⟨rfl, rfl, rfl, _⟩ := er
  have hb0 : 0 ≤ f.code[pc].b := by
    have := hb
    simp [operandB] at this
    exact this.1
  refine ⟨hb0, fun j => ?_⟩
  induction j with
  | zero =>
    intro _ _
    rw [Nat.add_zero, leftAt_succ 0 f.code pc h]
    simp [after, e]
  | succ j ih =>
    intro hj hl
    have hlt : pc + 1 + j < f.code.length := by omega
    rw [← Nat.add_assoc, leftAt_succ 0 f.code _ hlt, ih (by omega) (by omega)]
    have := (seq_at p f f.code 0 H.seq (pc + 1 + j) hlt).2
    rw [ih (by omega) (by omega)] at this
    have h51 := this.1 (by omega)
    unfold after
    rw [if_neg (by rw [h51]; decide), if_pos (by omega)]
    omega
theorem case_op {p : Pg} {f : Fc} (H : FnOk p f) {pc : Nat} (h : pc < f.code.length) (e : f.code[pc].op = 50) {j : Nat} (hj : (j : Int) < f.code[pc].b) (hl : pc + 1 + j < f.code.length) : f.code[pc + 1 + j].op = 51 := by
  have h1 := (cases_at H h e).2 j (by omega) (by omega)
  have h2 := (seq_at p f f.code 0 H.seq (pc + 1 + j) hl).2
  rw [h1] at h2
  exact h2.1 (by omega)
theorem case_range {p : Pg} {f : Fc} {x : In} (h : instrB p f x = true) (e : x.op = 51) : ∀ n ∈ caseRd x, 0 ≤ n ∧ n < f.regs := by
  obtain ⟨r0, r1, r2, er, _, ha, hb, hc, _⟩ := instr_parts h
  rw [e] at er
  have e2 : roles 51 = [114, 98, 99] := by decide
  rw [e2] at er
  simp only [List.cons.injEq] at er
  obtain ⟨rfl, rfl, rfl, _⟩ := er
  simp [operandB] at ha hb hc
  intro n hn
  unfold caseRd at hn
  rcases List.mem_cons.1 hn with rfl | hn
  · exact ha
  · split at hn
    · simp only [List.mem_singleton] at hn; subst hn; omega
    · cases hn
theorem more_range {p : Pg} (hv : validB p = true) {f : Fc} (hf : f ∈ p.funcs) {pc : Nat} (h : pc < f.code.length) : ∀ n ∈ more p f pc f.code[pc], 0 ≤ n ∧ n < f.regs := by
  have H := valid_fn hv hf
  have hi := (seq_at p f f.code 0 H.seq pc h).1
  obtain ⟨r0, r1, r2, er, _, ha, hb, hc, h24, h25, h38⟩ := instr_parts hi
  have hreg := H.par
  intro n hn
  generalize hx : f.code[pc] = x at *
  unfold more at hn
  split at hn
  · rename_i ho
    have hb' : operandB p f x 102 x.b = true := by
      rcases ho with e | e | e
      · rw [e, show roles 26 = [68, 102, 97] by decide] at er; simp only [List.cons.injEq] at er; obtain ⟨rfl, rfl, rfl, _⟩ := er; exact hb
      · rw [e, show roles 28 = [45, 102, 97] by decide] at er; simp only [List.cons.injEq] at er; obtain ⟨rfl, rfl, rfl, _⟩ := er; exact hb
      · rw [e, show roles 31 = [45, 102, 97] by decide] at er; simp only [List.cons.injEq] at er; obtain ⟨rfl, rfl, rfl, _⟩ := er; exact hb
    have hb2 : 0 ≤ x.b ∧ x.b < len p.funcs ∧ 0 ≤ x.c ∧ x.c ≤ wrap64 (f.regs - (p.funcs.getD x.b.toNat default).params) := by
      unfold operandB at hb'
      simpa using hb'
    rw [if_pos ⟨hb2.1, hb2.2.1⟩] at hn
    have hm := (valid_fn hv (getD_mem ⟨hb2.1, hb2.2.1⟩)).par
    have hn' := up_mem hn
    have h4 := hb2.2.2.2
    unfold wrap64 at h4
    omega
  · split at hn
    · rename_i e
      have := h24 e
      have hn' := up_mem hn
      rw [e, show roles 24 = [100, 49, 110] by decide] at er; simp only [List.cons.injEq] at er; obtain ⟨rfl, rfl, rfl, _⟩ := er
      simp [operandB] at ha hc
      omega
    · split at hn
      · rename_i e
        have := h25 e
        simp only [List.mem_singleton] at hn
        omega
      · split at hn
        · rename_i e
          have := h38 e
          rw [e, show roles 38 = [100, 114, 114] by decide] at er; simp only [List.cons.injEq] at er; obtain ⟨rfl, rfl, rfl, _⟩ := er
          simp [operandB] at hc
          simp only [List.mem_singleton] at hn
          omega
        · split at hn
          · rename_i e
            obtain ⟨l, hl, hnl⟩ := List.mem_flatten.1 hn
            obtain ⟨y, hy, rfl⟩ := List.mem_map.1 hl
            obtain ⟨j, hj, hyj⟩ := List.mem_iff_getElem.1 hy
            have hj2 : j < x.b.toNat ∧ pc + 1 + j < f.code.length := by
              simp only [List.length_take, List.length_drop] at hj; omega
            have hy2 : f.code[pc + 1 + j] = y := by
              rw [← hyj]; simp
            have hop := case_op H h (by rw [hx]; exact e) (j := j) (by rw [hx]; omega) hj2.2
            have hin := (seq_at p f f.code 0 H.seq (pc + 1 + j) hj2.2).1
            rw [hy2] at hop hin
            exact case_range hin hop n hnl
          · cases hn
theorem roles_mem {x : In} {r0 r1 r2 : UInt8} (e : roles x.op = [r0, r1, r2]) : rolesOf x = [(r0, x.a), (r1, x.b), (r2, x.c)] := by unfold rolesOf; rw [e]; rfl
/-- What an instruction of a permitted program reads. -/
theorem uses_below {p : Pg} (hv : validB p = true) {f : Fc} (hf : f ∈ p.funcs) {pc : Nat} (h : pc < f.code.length) : below (usesI p f pc f.code[pc]) f.regs := by
  unfold usesI
  split
  · exact ⟨List.Pairwise.nil, fun x hx => by cases hx⟩
  · refine below_insAll fun n hn => ?_
    rcases List.mem_append.1 hn with hn | hn
    · have hi := (seq_at p f f.code 0 (valid_fn hv hf).seq pc h).1
      obtain ⟨r0, r1, r2, er, _, ha, hb, hc, _⟩ := instr_parts hi
      rw [roles_mem er] at hn
      simp only [List.map_cons, List.map_nil, List.flatten_cons, List.flatten_nil, List.append_nil, List.mem_append] at hn
      rcases hn with hn | hn | hn
      · exact rd_range ha n hn
      · exact rd_range hb n hn
      · exact rd_range hc n hn
    · exact more_range hv hf h n hn
/-- What an instruction of a permitted program writes. -/
theorem defs_below {p : Pg} (hv : validB p = true) {f : Fc} (hf : f ∈ p.funcs) {pc : Nat} (h : pc < f.code.length) : below (defsI f.code[pc]) f.regs := by
  unfold defsI
  split
  · exact ⟨List.Pairwise.nil, fun x hx => by cases hx⟩
  · refine below_insAll fun n hn => ?_
    have hi := (seq_at p f f.code 0 (valid_fn hv hf).seq pc h).1
    obtain ⟨r0, r1, r2, er, _, ha, hb, hc, _⟩ := instr_parts hi
    rw [roles_mem er] at hn
    simp only [List.map_cons, List.map_nil, List.flatten_cons, List.flatten_nil, List.append_nil, List.mem_append] at hn
    rcases hn with hn | hn | hn
    · exact wr_range ha n hn
    · exact wr_range hb n hn
    · exact wr_range hc n hn

theorem last_at {p : Pg} {f : Fc} (H : FnOk p f) : f.code[f.code.length - 1]'(by have := H.len; omega) = f.code.getLast?.getD default := by
  have h0 := H.len.1
  have : f.code ≠ [] := List.length_pos_iff.1 h0
  rw [List.getLast?_eq_some_getLast this, Option.getD_some, List.getLast_eq_getElem]
/-- What may follow exists and is no case. -/
theorem next_ok {p : Pg} (hv : validB p = true) {f : Fc} (hf : f ∈ p.funcs) {pc : Nat} (h : pc < f.code.length) :
    (nextI pc f.code[pc] = [] ↔ f.code[pc].op = 30 ∨ f.code[pc].op = 51) ∧ ∀ n ∈ nextI pc f.code[pc], 0 ≤ n ∧ ∃ h : n.toNat < f.code.length, ¬ f.code[n.toNat].op = 51 := by
  have H := valid_fn hv hf
  have hs := seq_at p f f.code 0 H.seq
  obtain ⟨hi, hleft⟩ := hs pc h
  obtain ⟨r0, r1, r2, er, _, ha, hb, hc, _⟩ := instr_parts hi
  have hlast := H.last
  rw [← last_at H] at hlast
  have h0 := H.len.1
  -- the last one is no case, no select
  have step : ¬ f.code[pc].op = 30 → ¬ f.code[pc].op = 51 → ¬ f.code[pc].op = 16 → ¬ f.code[pc].op = 50 → ∃ h : pc + 1 < f.code.length, ¬ f.code[pc + 1].op = 51 := by
    intro a1 a2 a3 a4
    have hl : pc + 1 < f.code.length := by
      by_cases c : pc = f.code.length - 1
      · subst c; exact absurd hlast (by omega)
      · omega
    refine ⟨hl, fun e => ?_⟩
    have := ((hs (pc + 1) hl).2).2 e
    rw [leftAt_succ 0 f.code pc h] at this
    unfold after at this
    rw [if_neg a4] at this
    split at this
    · rename_i c; exact a2 (hleft.1 c)
    · omega
  have jump : operandB p f f.code[pc] 106 f.code[pc].c = true → 0 ≤ f.code[pc].c ∧ ∃ h : f.code[pc].c.toNat < f.code.length, ¬ f.code[f.code[pc].c.toNat].op = 51 := by
    intro ho
    simp [operandB] at ho
    have hlt : f.code[pc].c.toNat < f.code.length := by have := ho.2.1; unfold len at this; omega
    refine ⟨ho.1, hlt, ?_⟩
    have := ho.2.2
    rw [List.getElem?_eq_getElem hlt] at this
    simpa using this
  unfold nextI
  by_cases c1 : f.code[pc].op = 30 ∨ f.code[pc].op = 51
  · rw [if_pos c1]; exact ⟨⟨fun _ => c1, fun _ => rfl⟩, fun n hn => by cases hn⟩
  · rw [if_neg c1]
    by_cases c2 : f.code[pc].op = 16
    · rw [if_pos c2]
      refine ⟨by simp [c1], fun n hn => ?_⟩
      simp only [List.mem_singleton] at hn
      subst hn
      rw [c2, show roles 16 = [45, 45, 106] by decide] at er; simp only [List.cons.injEq] at er; obtain ⟨rfl, rfl, rfl, _⟩ := er
      exact jump hc
    · rw [if_neg c2]
      by_cases c3 : f.code[pc].op = 17 ∨ f.code[pc].op = 45
      · rw [if_pos c3]
        refine ⟨⟨fun e => ?_, fun e => absurd e c1⟩, fun n hn => ?_⟩
        · have : f.code[pc].c ∈ ins [(pc : Int) + 1] f.code[pc].c := (ins_mem _ _ _).2 (.inl rfl)
          rw [e] at this; cases this
        · rcases (ins_mem _ _ _).1 hn with e | e
          · subst e
            have er' : roles f.code[pc].op = [114, 45, 106] := by rcases c3 with e | e <;> rw [e] <;> decide
            rw [er'] at er; simp only [List.cons.injEq] at er; obtain ⟨rfl, rfl, rfl, _⟩ := er
            exact jump hc
          · simp only [List.mem_singleton] at e
            subst e
            obtain ⟨q1, q2⟩ := step (by omega) (by omega) (by omega) (by omega)
            have e2 : ((pc : Int) + 1).toNat = pc + 1 := by omega
            exact ⟨by omega, by rw [e2]; exact q1, by simp only [e2]; exact q2⟩
      · rw [if_neg c3]
        by_cases c4 : f.code[pc].op = 50
        · rw [if_pos c4]
          refine ⟨by simp [c1], fun n hn => ?_⟩
          simp only [List.mem_singleton] at hn
          subst hn
          obtain ⟨hb0, hcs⟩ := cases_at H h c4
          generalize hB : f.code[pc].b = B at *
          have hlt : pc + 1 + B.toNat < f.code.length := by
            by_cases q : pc + 1 + B.toNat < f.code.length
            · exact q
            · exfalso
              by_cases c : pc = f.code.length - 1
              · subst c; exact absurd hlast (by omega)
              · have hj : pc + 1 + (f.code.length - 1 - (pc + 1)) < f.code.length := by omega
                have := case_op H h c4 (j := f.code.length - 1 - (pc + 1)) (by rw [hB]; omega) hj
                have ei : pc + 1 + (f.code.length - 1 - (pc + 1)) = f.code.length - 1 := by omega
                simp only [ei] at this
                rcases hlast with q | q
                · rw [q] at this; cases this
                · rw [q] at this; cases this
          have e2 : ((pc : Int) + 1 + B).toNat = pc + 1 + B.toNat := by omega
          refine ⟨by omega, by rw [e2]; exact hlt, ?_⟩
          simp only [e2]
          intro e
          have := ((hs _ hlt).2).2 e
          rw [hcs B.toNat (by omega) (by omega)] at this
          omega
        · rw [if_neg c4]
          refine ⟨by simp [c1], fun n hn => ?_⟩
          simp only [List.mem_singleton] at hn
          subst hn
          obtain ⟨q1, q2⟩ := step (by omega) (by omega) (by omega) (by omega)
          have e2 : ((pc : Int) + 1).toNat = pc + 1 := by omega
          exact ⟨by omega, by rw [e2]; exact q1, by simp only [e2]; exact q2⟩
end Go.Proofs.YtekfhgldebhigaaDoor.C
