/-
  Plain mathematics of line tables: when a table is valid, and what Position, Offset and Span answer. No program text is reached here.
-/
import Derived.Below
namespace Go.Proofs.Ytlnobjdlcnpjeaa.M
set_option linter.unusedVariables false

/-- The entry with number i (0 beyond the end). -/
def at0 (zs : List Int) (i : Nat) : Int := zs.getD i 0

/-- A table with these starts and this size is valid. -/
def Ok (zs : List Int) (size : Int) : Prop :=
  0 < zs.length ∧ at0 zs 0 = 0 ∧ (∀ i, i + 1 < zs.length → at0 zs i < at0 zs (i + 1)) ∧ at0 zs (zs.length - 1) ≤ size ∧ size ≤ 1099511627776

theorem Ok.lt {zs : List Int} {size : Int} (h : Ok zs size) : ∀ {i j : Nat}, i < j → j < zs.length → at0 zs i < at0 zs j := by
  obtain ⟨_, _, h3, _, _⟩ := h
  intro i j hij hj
  induction j with
  | zero => omega
  | succ j ih =>
    have a := h3 j hj
    by_cases e : i = j
    · subst e; exact a
    · have b := ih (by omega) (by omega)
      omega

theorem Ok.le {zs : List Int} {size : Int} (h : Ok zs size) {i j : Nat} (hij : i ≤ j) (hj : j < zs.length) : at0 zs i ≤ at0 zs j := by
  rcases Nat.lt_or_ge i j with a | a
  · have := h.lt a hj; omega
  · have : i = j := by omega
    subst this; omega

theorem Ok.bd {zs : List Int} {size : Int} (h : Ok zs size) {i : Nat} (hi : i < zs.length) : 0 ≤ at0 zs i ∧ at0 zs i ≤ size := by
  obtain ⟨h1, h2, h3, h4, h5⟩ := h
  have a := Ok.le ⟨h1, h2, h3, h4, h5⟩ (Nat.zero_le i) hi
  have b := Ok.le ⟨h1, h2, h3, h4, h5⟩ (i := i) (j := zs.length - 1) (by omega) (by omega)
  omega

theorem Ok.size {zs : List Int} {size : Int} (h : Ok zs size) : 0 ≤ size ∧ size ≤ 1099511627776 := by
  have := h.bd h.1
  obtain ⟨h1, h2, h3, h4, h5⟩ := h
  omega

/-- The validity of a table as a Bool that some v tells. -/
def Tells (v : Bool) (zs : List Int) (size : Int) : Prop := v = true ↔ Ok zs size
theorem tells (zs : List Int) (size : Int) : ∃ v, Tells v zs size := by
  by_cases h : Ok zs size
  · exact ⟨true, by simp [Tells, h]⟩
  · exact ⟨false, by simp [Tells, h]⟩
theorem Tells.yes {zs : List Int} {size : Int} (h : Tells true zs size) : Ok zs size := h.1 rfl
theorem Tells.no {zs : List Int} {size : Int} (h : Tells false zs size) : ¬ Ok zs size := fun k => by have := h.2 k; cases this

/-- The number of lines. -/
def cnt (v : Bool) (zs : List Int) : Int := if v then (zs.length : Int) else 0

/-- How many starts are at most a. -/
def upTo (zs : List Int) (a : Int) : Nat := zs.countP (fun z => decide (z ≤ a))

theorem upTo_eq {zs : List Int} {a : Int} {c : Nat} (hc : c ≤ zs.length) (h1 : ∀ j, j < c → at0 zs j ≤ a) (h2 : ∀ j, c ≤ j → j < zs.length → a < at0 zs j) : upTo zs a = c := by
  have e : zs = zs.take c ++ zs.drop c := (List.take_append_drop c zs).symm
  unfold upTo
  rw [e, List.countP_append]
  have a1 : (zs.take c).countP (fun z => decide (z ≤ a)) = (zs.take c).length := by
    rw [List.countP_eq_length]
    intro z hz
    obtain ⟨i, hi, rfl⟩ := List.mem_iff_getElem.1 hz
    have hi' : i < c := by simp at hi; omega
    have := h1 i hi'
    have g : at0 zs i = zs[i]'(by omega) := by simp [at0, List.getD, List.getElem?_eq_getElem (show i < zs.length by omega)]
    simp [List.getElem_take]
    omega
  have a2 : (zs.drop c).countP (fun z => decide (z ≤ a)) = 0 := by
    rw [List.countP_eq_zero]
    intro z hz
    obtain ⟨i, hi, rfl⟩ := List.mem_iff_getElem.1 hz
    simp at hi
    have := h2 (c + i) (by omega) (by omega)
    have g : at0 zs (c + i) = zs[c + i]'(by omega) := by simp [at0, List.getD, List.getElem?_eq_getElem (show c + i < zs.length by omega)]
    simp [List.getElem_drop]
    omega
  rw [a1, a2]
  simp; omega

/-- The line of an offset, from above and below. -/
theorem Ok.line {zs : List Int} {size : Int} (h : Ok zs size) {a : Int} (ha : 0 ≤ a) :
    1 ≤ upTo zs a ∧ upTo zs a ≤ zs.length ∧ at0 zs (upTo zs a - 1) ≤ a ∧ (upTo zs a < zs.length → a < at0 zs (upTo zs a)) := by
  have key : ∀ n, n ≤ zs.length → (∀ j, j < n → at0 zs j ≤ a) → ∃ c, n ≤ c ∧ c ≤ zs.length ∧ (∀ j, j < c → at0 zs j ≤ a) ∧ (c < zs.length → a < at0 zs c) := by
    intro n
    induction hm : zs.length - n generalizing n with
    | zero => intro hn hj; exact ⟨n, by omega, by omega, hj, by omega⟩
    | succ m ih =>
      intro hn hj
      by_cases g : at0 zs n ≤ a
      · obtain ⟨c, hc1, hc2, hc3, hc4⟩ := ih (n + 1) (by omega) (by omega) (fun j hjn => by
          by_cases e : j = n
          · subst e; exact g
          · exact hj j (by omega))
        exact ⟨c, by omega, hc2, hc3, hc4⟩
      · exact ⟨n, Nat.le_refl _, hn, hj, fun _ => by omega⟩
  obtain ⟨c, hc1, hc2, hc3, hc4⟩ := key 1 h.1 (fun j hj => by
    have : j = 0 := by omega
    subst this; rw [h.2.1]; exact ha)
  have e : upTo zs a = c := upTo_eq hc2 hc3 (fun j hj hl => by
    have := hc4 (by omega)
    have := h.le hj hl
    omega)
  rw [e]
  exact ⟨hc1, hc2, hc3 _ (by omega), hc4⟩

/-- .. and it is the only one. -/
theorem Ok.line_eq {zs : List Int} {size : Int} (h : Ok zs size) {a : Int} {k : Nat} (hk : k < zs.length) (h1 : at0 zs k ≤ a) (h2 : k + 1 < zs.length → a < at0 zs (k + 1)) : upTo zs a = k + 1 :=
  upTo_eq (by omega) (fun j hj => by have := h.le (i := j) (j := k) (by omega) hk; omega) (fun j hj hl => by have := h2 (by omega); have := h.le hj hl; omega)

/-- Position: line, column, error. -/
def pLine (v : Bool) (zs : List Int) (size a : Int) : Int := if v = true ∧ 0 ≤ a ∧ a ≤ size then (upTo zs a : Int) else 0
def pCol (v : Bool) (zs : List Int) (size a : Int) : Int := if v = true ∧ 0 ≤ a ∧ a ≤ size then a - at0 zs (upTo zs a - 1) + 1 else 0
def pErr (v : Bool) (size a : Int) : Int := if v = true then (if 0 ≤ a ∧ a ≤ size then 0 else 2) else 1

/-- Span: start, end, error. -/
def sFrom (v : Bool) (zs : List Int) (l : Int) : Int := if v = true ∧ 1 ≤ l ∧ l ≤ zs.length then at0 zs (l.toNat - 1) else 0
def sTo (v : Bool) (zs : List Int) (size l : Int) : Int := if v = true ∧ 1 ≤ l ∧ l ≤ zs.length then (if l = zs.length then size else at0 zs l.toNat) else 0
def sErr (v : Bool) (zs : List Int) (l : Int) : Int := if v = true then (if 1 ≤ l ∧ l ≤ zs.length then 0 else 2) else 1

/-- The columns of a line that there is. -/
def cols (zs : List Int) (size l : Int) : Int := (if l = zs.length then size + 1 else at0 zs l.toNat) - at0 zs (l.toNat - 1)

/-- Offset: offset, error. -/
def oAt (v : Bool) (zs : List Int) (size l c : Int) : Int := if v = true ∧ 1 ≤ l ∧ l ≤ zs.length ∧ 1 ≤ c ∧ c ≤ cols zs size l then at0 zs (l.toNat - 1) + c - 1 else 0
def oErr (v : Bool) (zs : List Int) (size l c : Int) : Int := if v = true then (if 1 ≤ l ∧ l ≤ zs.length ∧ 1 ≤ c ∧ c ≤ cols zs size l then 0 else 2) else 1

end Go.Proofs.Ytlnobjdlcnpjeaa.M
