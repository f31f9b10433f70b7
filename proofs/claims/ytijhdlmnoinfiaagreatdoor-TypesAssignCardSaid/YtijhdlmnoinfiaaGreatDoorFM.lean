/-
  The walk of the program's Assignable.
-/
import Derived.Test.YtijhdlmnoinfiaaGreatDoorFL
import Derived.Test.YtijhdlmnoinfiaaGreatDoorFF
set_option linter.all false
namespace Go.Proofs.YtijhdlmnoinfiaaGreatDoor
open Go.RowKit T T.Fo Ty

set_option maxRecDepth 100000 in
set_option maxHeartbeats 8000000 in
theorem yassign_far (k : Int) (s : ByteArray) (k' : Int) (s' : ByteArray) (w : World) (h1 : (k' == k) = false ∨ (s'.toList == s.toList) = false) (h2 : (k' == 3) = false ∨ (s'.toList == []) = false) : Calls Tryz.prog 23 #[tyv k s, tyv k' s'] w fun e w' => e = .returned (.bool false) ∧ Below w.heap.size w w' := by
  have HS := Lib.hid (S2.start w k s k' s').dr
  rcases h1 with h1 | h1 <;> rcases h2 with h2 | h2 <;>
  · go_enter Tryz.func23, Tryz.ntmps23
    go_wp2_with fail
    go_region_with (go_at_call 36; (with_reducible refine (plain_any _ _).mono ?_); rintro e w1 ⟨rfl, hb⟩; have HA := Lib.hid (HS.out.keep hb); obtain ⟨az, aa0, aa1, ac0, ac1, _⟩ := HA.out; clear hb)
    all_goals
      go_wp2
      go_ret
      exact ⟨rfl, HA.out.b⟩
set_option maxRecDepth 100000 in
set_option maxHeartbeats 8000000 in
theorem yassign_none (k : Int) (s : ByteArray) (w : World) (hm : s.size ≤ maxLen) (hG : Glob w) (hv : valB k s = false) (h2 : (k == 3) = false ∨ (s.toList == []) = false) : Calls Tryz.prog 23 #[tyv k s, tyv k s] w fun e w' => e = .returned (.bool false) ∧ Below w.heap.size w w' := by
  have HV : Hid (∀ V, Below w.heap.size w V → Calls Tryz.prog 20 #[tyv k s] V fun e w' => e = .returned (.bool false) ∧ Below V.heap.size V w') := Lib.hid fun V hV => hv ▸ yvalue_any k s V hm (glob_below hG hV)
  have HS := Lib.hid (S2.start w k s k s).dr
  clear hv hm hG
  have hk0 : (k == k) = true := by simp
  have hs0 : (s.toList == s.toList) = true := by simp
  rcases h2 with h2 | h2 <;>
  · go_enter Tryz.func23, Tryz.ntmps23
    go_wp2_with fail
    go_region_with (first
      | (go_at_call 20; (with_reducible refine (HV.out _ HS.out.b).mono ?_); rintro e w1 ⟨rfl, hb⟩; have HV1 := Lib.hid (HS.out.keep hb); obtain ⟨vz, va0, va1, vc0, vc1, _⟩ := HV1.out; clear hb)
      | (go_at_call 36; (with_reducible refine (plain_any _ _).mono ?_); rintro e w1 ⟨rfl, hb⟩; have HA := Lib.hid (HV1.out.keep hb); obtain ⟨az, aa0, aa1, ac0, ac1, _⟩ := HA.out; clear hb))
    all_goals
      go_wp2
      go_ret
      exact ⟨rfl, HA.out.b⟩
theorem list_ne {a b : List UInt8} (h : ¬ a = b) : (a == b) = false := by simpa using h
theorem rB_val {k : Int} {s : ByteArray} (h : rB k s = true) : valB k s = true := by unfold valB; rw [h]; simp
theorem yassign_any (k : Int) (s : ByteArray) (k' : Int) (s' : ByteArray) (w : World) (hm : s.size ≤ maxLen) (hG : Glob w) : Calls Tryz.prog 23 #[tyv k s, tyv k' s'] w fun e w' => e = .returned (.bool (asB k s k' s')) ∧ Below w.heap.size w w' := by
  have e0 : (⟨#[]⟩ : ByteArray).toList = [] := by rw [ByteArray.toList_eq]
  by_cases hsame : k = k' ∧ s.toList = s'.toList
  · obtain ⟨rfl, h⟩ := hsame
    obtain rfl := ba_ext h
    have es : Ty.sm k s k s = true := by unfold Ty.sm; simp
    cases hv : valB k s with
    | true =>
      have e : asB k s k s = true := by unfold asB; rw [hv, es]; simp
      rw [e]; exact yassign_one k s w hm hG hv
    | false =>
      have e : asB k s k s = false := by unfold asB; rw [hv]; simp
      rw [e]
      by_cases hn : k = 3 ∧ s.toList = []
      · obtain ⟨rfl, hn⟩ := hn
        obtain rfl : s = ⟨#[]⟩ := ba_ext (hn.trans e0.symm)
        exact yassign_33 w hG
      · refine yassign_none k s w hm hG hv ?_
        by_cases h3 : k = 3
        · exact .inr (list_ne fun h => hn ⟨h3, h⟩)
        · exact .inl (by simpa using h3)
  · have es : Ty.sm k s k' s' = false := by
      unfold Ty.sm
      by_cases h3 : k = k'
      · have : ¬ s.toList = s'.toList := fun h => hsame ⟨h3, h⟩
        simp [this]
      · simp [h3]
    by_cases hn : k' = 3 ∧ s'.toList = []
    · obtain ⟨rfl, hn⟩ := hn
      obtain rfl : s' = ⟨#[]⟩ := ba_ext (hn.trans e0.symm)
      have e : asB k s 3 ⟨#[]⟩ = rB k s := by
        unfold asB; rw [es, isK_yes rfl e0]
        cases hr : rB k s with
        | true => rw [rB_val hr]; rfl
        | false => simp
      rw [e]
      refine yassign_nil k s w hm hG ?_
      by_cases h3 : 3 = k
      · exact .inr (list_ne fun h => hsame ⟨h3.symm, by rw [e0]; exact h.symm⟩)
      · exact .inl (by simpa using h3)
    · have e : asB k s k' s' = false := by
        unfold asB
        have : isK 3 k' s' = false := by
          by_cases h3 : k' = 3
          · exact isK_no (.inr fun h => hn ⟨h3, h⟩)
          · exact isK_no (.inl h3)
        rw [es, this]; simp
      rw [e]
      refine yassign_far k s k' s' w ?_ ?_
      · by_cases h3 : k' = k
        · exact .inr (list_ne fun h => hsame ⟨h3.symm, h.symm⟩)
        · exact .inl (by simpa using h3)
      · by_cases h3 : k' = 3
        · exact .inr (list_ne fun h => hn ⟨h3, h⟩)
        · exact .inl (by simpa using h3)
end Go.Proofs.YtijhdlmnoinfiaaGreatDoor
