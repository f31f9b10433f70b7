/-
  Plain mathematics: Position and Offset of a valid table are inverse to each other. No program text is reached here.
-/
import Derived.Test.YtlnobjdlcnpjeaaMath
namespace Go.Proofs.Ytlnobjdlcnpjeaa.M

theorem pErr_cases {v : Bool} {zs : List Int} {size a : Int} (hv : Tells v zs size) (h : pErr v size a = 0) : v = true ∧ Ok zs size ∧ 0 ≤ a ∧ a ≤ size := by
  unfold pErr at h
  by_cases hv1 : v = true
  · rw [if_pos hv1] at h
    by_cases ha : 0 ≤ a ∧ a ≤ size
    · exact ⟨hv1, hv.1 hv1, ha.1, ha.2⟩
    · rw [if_neg ha] at h; cases h
  · rw [if_neg hv1] at h; cases h

theorem oErr_cases {v : Bool} {zs : List Int} {size l c : Int} (hv : Tells v zs size) (h : oErr v zs size l c = 0) : v = true ∧ Ok zs size ∧ 1 ≤ l ∧ l ≤ zs.length ∧ 1 ≤ c ∧ c ≤ cols zs size l := by
  unfold oErr at h
  by_cases hv1 : v = true
  · rw [if_pos hv1] at h
    by_cases ha : 1 ≤ l ∧ l ≤ zs.length ∧ 1 ≤ c ∧ c ≤ cols zs size l
    · exact ⟨hv1, hv.1 hv1, ha⟩
    · rw [if_neg ha] at h; cases h
  · rw [if_neg hv1] at h; cases h

/-- The offset of an offset's position is the offset. -/
theorem there {v : Bool} {zs : List Int} {size a : Int} (hv : Tells v zs size) (h : pErr v size a = 0) :
    oErr v zs size (pLine v zs size a) (pCol v zs size a) = 0 ∧ oAt v zs size (pLine v zs size a) (pCol v zs size a) = a := by
  obtain ⟨rfl, ok, a0, a1⟩ := pErr_cases hv h
  obtain ⟨l1, l2, l3, l4⟩ := ok.line a0
  have eL : pLine true zs size a = (upTo zs a : Int) := by rw [pLine, if_pos ⟨rfl, a0, a1⟩]
  have eC : pCol true zs size a = a - at0 zs (upTo zs a - 1) + 1 := by rw [pCol, if_pos ⟨rfl, a0, a1⟩]
  have et : ((upTo zs a : Nat) : Int).toNat = upTo zs a := by omega
  have g : 1 ≤ ((upTo zs a : Nat) : Int) ∧ ((upTo zs a : Nat) : Int) ≤ zs.length ∧ 1 ≤ a - at0 zs (upTo zs a - 1) + 1 ∧ a - at0 zs (upTo zs a - 1) + 1 ≤ cols zs size (upTo zs a) := by
    refine ⟨by omega, by omega, by omega, ?_⟩
    unfold cols
    rw [et]
    by_cases e : ((upTo zs a : Nat) : Int) = zs.length
    · rw [if_pos e]; omega
    · rw [if_neg e]; have := l4 (by omega); omega
  rw [eL, eC]
  refine ⟨by rw [oErr, if_pos rfl, if_pos g], ?_⟩
  rw [oAt, if_pos ⟨rfl, g⟩, et]
  omega

/-- The position of a position's offset is the position. -/
theorem back {v : Bool} {zs : List Int} {size l c : Int} (hv : Tells v zs size) (h : oErr v zs size l c = 0) :
    pErr v size (oAt v zs size l c) = 0 ∧ pLine v zs size (oAt v zs size l c) = l ∧ pCol v zs size (oAt v zs size l c) = c := by
  obtain ⟨rfl, ok, l1, l2, c1, c2⟩ := oErr_cases hv h
  obtain ⟨k, rfl⟩ : ∃ k : Nat, l = (k : Int) + 1 := ⟨(l - 1).toNat, by omega⟩
  have e1 : ((k : Int) + 1).toNat = k + 1 := by omega
  have hk : k < zs.length := by omega
  have eA : oAt true zs size ((k : Int) + 1) c = at0 zs k + c - 1 := by rw [oAt, if_pos ⟨rfl, l1, l2, c1, c2⟩, e1, Nat.add_sub_cancel]
  have b0 := ok.bd hk
  unfold cols at c2
  rw [e1, Nat.add_sub_cancel] at c2
  have hi : at0 zs k + c - 1 ≤ size ∧ (k + 1 < zs.length → at0 zs k + c - 1 < at0 zs (k + 1)) := by
    by_cases e : (k : Int) + 1 = zs.length
    · rw [if_pos e] at c2; exact ⟨by omega, fun g => by omega⟩
    · rw [if_neg e] at c2
      have := ok.bd (i := k + 1) (by omega)
      exact ⟨by omega, fun _ => by omega⟩
  have eu : upTo zs (at0 zs k + c - 1) = k + 1 := ok.line_eq hk (by omega) hi.2
  have g : 0 ≤ at0 zs k + c - 1 ∧ at0 zs k + c - 1 ≤ size := ⟨by omega, hi.1⟩
  rw [eA]
  refine ⟨by rw [pErr, if_pos rfl, if_pos g], by rw [pLine, if_pos ⟨rfl, g⟩, eu]; omega, ?_⟩
  rw [pCol, if_pos ⟨rfl, g⟩, eu, Nat.add_sub_cancel]
  omega

theorem off_zero {v : Bool} {zs : List Int} {size l c : Int} (h : oErr v zs size l c ≠ 0) : oAt v zs size l c = 0 := by
  unfold oAt
  by_cases g : v = true ∧ 1 ≤ l ∧ l ≤ (zs.length : Int) ∧ 1 ≤ c ∧ c ≤ cols zs size l
  · exact absurd (by rw [oErr, if_pos g.1, if_pos g.2]) h
  · rw [if_neg g]

end Go.Proofs.Ytlnobjdlcnpjeaa.M
