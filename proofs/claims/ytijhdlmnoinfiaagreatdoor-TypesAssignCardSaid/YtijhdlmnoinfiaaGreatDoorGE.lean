/-
  The walk of the law TypesAssign.
-/
import Derived.Test.YtijhdlmnoinfiaaGreatDoorGB
import Derived.Test.YtijhdlmnoinfiaaGreatDoorFM
set_option linter.all false
namespace Go.Proofs.YtijhdlmnoinfiaaGreatDoor
open Go.RowKit T T.Fo Ty

theorem as_self (k : Int) (s : ByteArray) : asB k s k s = valB k s := by
  unfold asB Ty.sm; simp
/-- Two value types are assignable to each other only if they are the same. -/
theorem as_val {k k' : Int} {s s' : ByteArray} (h : valB k' s' = true) (hx : ¬ (k = k' ∧ s.toList = s'.toList)) : asB k s k' s' = false := by
  unfold asB
  have e1 : Ty.sm k s k' s' = false := by
    unfold Ty.sm
    by_cases h3 : k = k'
    · have : ¬ s.toList = s'.toList := fun h => hx ⟨h3, h⟩
      simp [this]
    · simp [h3]
  have e2 : isK 3 k' s' = false := by
    by_cases h3 : k' = 3
    · subst h3; rw [val3] at h; cases h
    · exact isK_no (.inl h3)
  rw [e1, e2]; simp
/-- What is left of the law's test. -/
def NA (a a' c : Bool) : Prop := a = true → a' = true → c = false
set_option maxRecDepth 100000 in
set_option maxHeartbeats 8000000 in
theorem assign_law (k : Int) (s : ByteArray) (k' : Int) (s' : ByteArray) (w : World) (hG : Glot w) (hm : s.size ≤ maxLen) (hm' : s'.size ≤ maxLen) : Calls Tryz.prog 5 #[tyv k s, tyv k' s'] w fun e w' => e = .returned (.bool true) ∧ Below w.heap.size w w' := by
  obtain ⟨a, ha⟩ : ∃ v, valB k s = v := ⟨_, rfl⟩
  obtain ⟨a', ha'⟩ : ∃ v, valB k' s' = v := ⟨_, rfl⟩
  obtain ⟨c, hc⟩ : ∃ v, asB k s k' s' = v := ⟨_, rfl⟩
  have HI : Hid (¬ (k = k' ∧ s.toList = s'.toList) → NA a a' c) := Lib.hid fun hx h1 h2 => hc.symm.trans (as_val (ha'.trans h2) hx)
  have HA : Hid (∀ V, Below w.heap.size w V → Calls Tryz.prog 10 #[] V fun e w' => e = .returned (.bool true) ∧ Below V.heap.size V w') := Lib.hid fun V hV => awake_any V (hG.below hV)
  have H23 : Hid (∀ V, Below w.heap.size w V → Calls Tryz.prog 23 #[tyv k s, tyv k' s'] V fun e w' => e = .returned (.bool c) ∧ Below V.heap.size V w') := Lib.hid fun V hV => hc ▸ yassign_any k s k' s' V hm (glob_below hG.1 hV)
  have H23s : Hid (∀ V, Below w.heap.size w V → Calls Tryz.prog 23 #[tyv k s, tyv k s] V fun e w' => e = .returned (.bool a) ∧ Below V.heap.size V w') := Lib.hid fun V hV => ((as_self k s).trans ha) ▸ yassign_any k s k s V hm (glob_below hG.1 hV)
  have H24 : Hid (∀ V, Below w.heap.size w V → Calls Tryz.prog 24 #[tyv k s, tyv k' s'] V fun e w' => e = .returned (.bool c) ∧ Below V.heap.size V w') := Lib.hid fun V hV => hc ▸ rassign_any k s k' s' V hm
  have H20 : Hid (∀ V, Below w.heap.size w V → Calls Tryz.prog 20 #[tyv k s] V fun e w' => e = .returned (.bool a) ∧ Below V.heap.size V w') := Lib.hid fun V hV => ha ▸ yvalue_any k s V hm (glob_below hG.1 hV)
  have H20' : Hid (∀ V, Below w.heap.size w V → Calls Tryz.prog 20 #[tyv k' s'] V fun e w' => e = .returned (.bool a') ∧ Below V.heap.size V w') := Lib.hid fun V hV => ha' ▸ yvalue_any k' s' V hm' (glob_below hG.1 hV)
  have HS := Lib.hid (S2.start w k s k' s')
  have ec : (c != c) = false := by simp
  have ea : (a != a) = false := by simp
  clear hG hm hm' ha ha' hc
  go_enter Tryz.func5, Tryz.ntmps5
  go_wp2_with fail
  refine (HA.out _ HS.out.b).mono ?_
  rintro e V ⟨rfl, hb⟩
  have HS2 := Lib.hid (HS.out.keep hb)
  clear hb
  go_wp2_with fail
  go_region_held3 (fun w' => w.heap.size + 1 < w'.heap.size ∧ w'.cell? ⟨w.heap.size, 0, none⟩ = some (.int .i64 k) ∧ w'.cell? ⟨w.heap.size, 1, none⟩ = some (.string s) ∧ w'.cell? ⟨w.heap.size + 1, 0, none⟩ = some (.int .i64 k') ∧ w'.cell? ⟨w.heap.size + 1, 1, none⟩ = some (.string s') ∧ Below w.heap.size w w')
    (first
      | exact HS2.out.dr.dd
      | exact S2.kp (by first | assumption | exact HS2.out.dr.dd) hb)
    (first
      | (go_at_call 23; (with_reducible refine (H23.out _ ?_).mono ?_); (go_split_ands; assumption); rintro e w' ⟨rfl, hb⟩)
      | (go_at_call 23; (with_reducible refine (H23s.out _ ?_).mono ?_); (go_split_ands; assumption); rintro e w' ⟨rfl, hb⟩)
      | (go_at_call 24; (with_reducible refine (H24.out _ ?_).mono ?_); (go_split_ands; assumption); rintro e w' ⟨rfl, hb⟩)
      | (go_at_call 20; (with_reducible refine (H20.out _ ?_).mono ?_); (go_split_ands; assumption); rintro e w' ⟨rfl, hb⟩))
  have HS3 : Hid (S2 w k s k' s' w') := Lib.hid (mk_s2 (by assumption))
  obtain ⟨z, a0, a1, c0, c1, _⟩ := HS3.out
  by_cases hk : k = k'
  · subst hk
    have hkk : (k == k) = true := by simp
    by_cases hs : s.toList = s'.toList
    · go_wp2
      go_ret
      exact ⟨rfl, HS3.out.b⟩
    · have hss : (s.toList == s'.toList) = false := by simpa using hs
      have HN : Hid (NA a a' c) := Lib.hid (HI.out fun h => hs h.2)
      clear hs HI
      cases a <;> cases a' <;> cases c <;>
      · go_wp2_with (first
          | (go_at_call 20; (with_reducible refine (H20.out _ HS3.out.b).mono ?_); rintro e V3 ⟨rfl, hb⟩; have HS4 := Lib.hid (HS3.out.keep hb); obtain ⟨z4, a04, a14, c04, c14, _⟩ := HS4.out; clear hb)
          | (go_at_call 20; (with_reducible refine (H20'.out _ HS4.out.b).mono ?_); rintro e V4 ⟨rfl, hb⟩; have HS5 := Lib.hid (HS4.out.keep hb); obtain ⟨z5, a05, a15, c05, c15, _⟩ := HS5.out; clear hb)
          | (go_at_call 23; (with_reducible refine (H23.out _ HS5.out.b).mono ?_); rintro e V5 ⟨rfl, hb⟩; have HS6 := Lib.hid (HS5.out.keep hb); clear hb))
        all_goals go_ret
        all_goals first
          | exact ⟨rfl, HS6.out.b⟩
          | exact ⟨rfl, HS5.out.b⟩
          | exact ⟨rfl, HS4.out.b⟩
          | exact ⟨rfl, HS3.out.b⟩
          | (have hx := HN.out rfl rfl; cases hx)
  · have hkk : (k == k') = false := by simpa using hk
    have HN : Hid (NA a a' c) := Lib.hid (HI.out fun h => hk h.1)
    clear hk HI
    cases a <;> cases a' <;> cases c <;>
    · go_wp2_with (first
        | (go_at_call 20; (with_reducible refine (H20.out _ HS3.out.b).mono ?_); rintro e V3 ⟨rfl, hb⟩; have HS4 := Lib.hid (HS3.out.keep hb); obtain ⟨z4, a04, a14, c04, c14, _⟩ := HS4.out; clear hb)
        | (go_at_call 20; (with_reducible refine (H20'.out _ HS4.out.b).mono ?_); rintro e V4 ⟨rfl, hb⟩; have HS5 := Lib.hid (HS4.out.keep hb); obtain ⟨z5, a05, a15, c05, c15, _⟩ := HS5.out; clear hb)
        | (go_at_call 23; (with_reducible refine (H23.out _ HS5.out.b).mono ?_); rintro e V5 ⟨rfl, hb⟩; have HS6 := Lib.hid (HS5.out.keep hb); clear hb))
      all_goals go_ret
      all_goals first
        | exact ⟨rfl, HS6.out.b⟩
        | exact ⟨rfl, HS5.out.b⟩
        | exact ⟨rfl, HS4.out.b⟩
        | exact ⟨rfl, HS3.out.b⟩
        | (have hx := HN.out rfl rfl; cases hx)
end Go.Proofs.YtijhdlmnoinfiaaGreatDoor
