/-
  The walk of the law TypesCompare.
-/
import Derived.Test.YtijhdlmnoinfiaaGreatDoorGB
import Derived.Test.YtijhdlmnoinfiaaGreatDoorFF
set_option linter.all false
namespace Go.Proofs.YtijhdlmnoinfiaaGreatDoor
open Go.RowKit T T.Fo Ty

theorem sm_symm (k k' : Int) (s s' : ByteArray) : Ty.sm k s k' s' = Ty.sm k' s' k s := by
  unfold Ty.sm
  rw [Bool.eq_iff_iff]; simp; constructor <;> rintro ⟨a, b⟩ <;> exact ⟨a.symm, b.symm⟩
theorem val_list {k : Int} {s s' : ByteArray} (h : s.toList = s'.toList) : valB k s = valB k s' := by rw [ba_ext h]
theorem cm_symm (k k' : Int) (s s' : ByteArray) : cmB k s k' s' = cmB k' s' k s := by
  unfold cmB
  rw [Bool.or_comm (isK 3 k s), Bool.or_comm (rB k s), sm_symm]
  split
  · rfl
  · cases h : Ty.sm k' s' k s with
    | false => simp
    | true =>
      have h' := h
      unfold Ty.sm at h'
      simp at h'
      obtain ⟨e1, e2⟩ := h'
      subst e1
      rw [val_list e2]
/-- nil is comparable with what it is assignable to. -/
theorem nil_cm (k : Int) (s : ByteArray) : cmB 3 ⟨#[]⟩ k s = rB k s := cm_a (isK_yes rfl (by rw [ByteArray.toList_eq]))
theorem yassign_to (k : Int) (s : ByteArray) (w : World) (hm : s.size ≤ maxLen) (hG : Glob w) : Calls Tryz.prog 23 #[tyv k s, tyv 3 ⟨#[]⟩] w fun e w' => e = .returned (.bool (rB k s)) ∧ Below w.heap.size w w' := by
  by_cases h3 : k = 3
  · by_cases hs : s.toList = []
    · have e : s = ⟨#[]⟩ := ba_ext (hs.trans (by rw [ByteArray.toList_eq]))
      subst h3; subst e
      rw [rB3]
      exact yassign_33 w hG
    · refine yassign_nil k s w hm hG (.inr ?_)
      cases hl : s.toList with
      | nil => exact absurd hl hs
      | cons a b => rfl
  · exact yassign_nil k s w hm hG (.inl (by simp; omega))
/-- Two boxes that hold types, a third that holds nil's. -/
structure Sn (w : World) (k : Int) (s : ByteArray) (k' : Int) (s' : ByteArray) (q : Nat) (V : World) : Prop where
  s : S2 w k s k' s' V
  zq : q < V.heap.size
  n0 : V.cell? ⟨q, 0, none⟩ = some (.int .i64 3)
  n1 : V.cell? ⟨q, 1, none⟩ = some (.string ⟨#[]⟩)
theorem Sn.start {w V : World} {k k' : Int} {s s' : ByteArray} (h : S2 w k s k' s' V) : Sn w k s k' s' V.heap.size (V.alloc (.cells #[.int .i64 3, .string ⟨#[]⟩] 24)) :=
  ⟨h.keep (b1 _ _), by simp, by simp, by simp⟩
theorem Sn.keep {w V V' : World} {k k' : Int} {s s' : ByteArray} {q : Nat} (h : Sn w k s k' s' q V) (hb : Below V.heap.size V V') : Sn w k s k' s' q V' :=
  ⟨h.s.keep hb, Nat.lt_of_lt_of_le h.zq hb.size, (hb.cell (p := ⟨q, 0, none⟩) h.zq).trans h.n0, (hb.cell (p := ⟨q, 1, none⟩) h.zq).trans h.n1⟩
theorem Sn.dr {w V : World} {k k' : Int} {s s' : ByteArray} {q : Nat} (h : Sn w k s k' s' q V) : Sn w k s k' s' q V.drew := ⟨h.s.dr, h.zq, h.n0, h.n1⟩
theorem Sn.dd {w V : World} {k k' : Int} {s s' : ByteArray} {q : Nat} (h : Sn w k s k' s' q V) : w.heap.size + 1 < V.heap.size ∧ q < V.heap.size ∧ V.cell? ⟨w.heap.size, 0, none⟩ = some (.int .i64 k) ∧ V.cell? ⟨w.heap.size, 1, none⟩ = some (.string s) ∧ V.cell? ⟨w.heap.size + 1, 0, none⟩ = some (.int .i64 k') ∧ V.cell? ⟨w.heap.size + 1, 1, none⟩ = some (.string s') ∧ V.cell? ⟨q, 0, none⟩ = some (.int .i64 3) ∧ V.cell? ⟨q, 1, none⟩ = some (.string ⟨#[]⟩) ∧ Below w.heap.size w V :=
  ⟨h.s.z, h.zq, h.s.a0, h.s.a1, h.s.c0, h.s.c1, h.n0, h.n1, h.s.b⟩
theorem Sn.kp {w V V' : World} {k k' : Int} {s s' : ByteArray} {q : Nat} (h : w.heap.size + 1 < V.heap.size ∧ q < V.heap.size ∧ V.cell? ⟨w.heap.size, 0, none⟩ = some (.int .i64 k) ∧ V.cell? ⟨w.heap.size, 1, none⟩ = some (.string s) ∧ V.cell? ⟨w.heap.size + 1, 0, none⟩ = some (.int .i64 k') ∧ V.cell? ⟨w.heap.size + 1, 1, none⟩ = some (.string s') ∧ V.cell? ⟨q, 0, none⟩ = some (.int .i64 3) ∧ V.cell? ⟨q, 1, none⟩ = some (.string ⟨#[]⟩) ∧ Below w.heap.size w V) (hb : Below V.heap.size V V') : w.heap.size + 1 < V'.heap.size ∧ q < V'.heap.size ∧ V'.cell? ⟨w.heap.size, 0, none⟩ = some (.int .i64 k) ∧ V'.cell? ⟨w.heap.size, 1, none⟩ = some (.string s) ∧ V'.cell? ⟨w.heap.size + 1, 0, none⟩ = some (.int .i64 k') ∧ V'.cell? ⟨w.heap.size + 1, 1, none⟩ = some (.string s') ∧ V'.cell? ⟨q, 0, none⟩ = some (.int .i64 3) ∧ V'.cell? ⟨q, 1, none⟩ = some (.string ⟨#[]⟩) ∧ Below w.heap.size w V' :=
  (Sn.keep ⟨⟨h.1, h.2.2.1, h.2.2.2.1, h.2.2.2.2.1, h.2.2.2.2.2.1, h.2.2.2.2.2.2.2.2⟩, h.2.1, h.2.2.2.2.2.2.1, h.2.2.2.2.2.2.2.1⟩ hb).dd
set_option maxRecDepth 100000 in
set_option maxHeartbeats 8000000 in
theorem compare_law (k : Int) (s : ByteArray) (k' : Int) (s' : ByteArray) (w : World) (hG : Glot w) (hm : s.size ≤ maxLen) (hm' : s'.size ≤ maxLen) : Calls Tryz.prog 6 #[tyv k s, tyv k' s'] w fun e w' => e = .returned (.bool true) ∧ Below w.heap.size w w' := by
  obtain ⟨c, hc⟩ : ∃ v, cmB k s k' s' = v := ⟨_, rfl⟩
  obtain ⟨r, hr⟩ : ∃ v, rB k s = v := ⟨_, rfl⟩
  have hm0 : (⟨#[]⟩ : ByteArray).size ≤ maxLen := by unfold maxLen; decide
  have HA : Hid (∀ V, Below w.heap.size w V → Calls Tryz.prog 10 #[] V fun e w' => e = .returned (.bool true) ∧ Below V.heap.size V w') := Lib.hid fun V hV => awake_any V (hG.below hV)
  have H25 : Hid (∀ V, Below w.heap.size w V → Calls Tryz.prog 25 #[tyv k s, tyv k' s'] V fun e w' => e = .returned (.bool c) ∧ Below V.heap.size V w') := Lib.hid fun V hV => hc ▸ ycompare_any k s k' s' V hm hm' (glob_below hG.1 hV)
  have H25' : Hid (∀ V, Below w.heap.size w V → Calls Tryz.prog 25 #[tyv k' s', tyv k s] V fun e w' => e = .returned (.bool c) ∧ Below V.heap.size V w') := Lib.hid fun V hV => (cm_symm k k' s s').symm.trans hc ▸ ycompare_any k' s' k s V hm' hm (glob_below hG.1 hV)
  have H25n : Hid (∀ V, Below w.heap.size w V → Calls Tryz.prog 25 #[tyv 3 ⟨#[]⟩, tyv k s] V fun e w' => e = .returned (.bool r) ∧ Below V.heap.size V w') := Lib.hid fun V hV => ((nil_cm k s).trans hr) ▸ ycompare_any 3 ⟨#[]⟩ k s V hm0 hm (glob_below hG.1 hV)
  have H26 : Hid (∀ V, Below w.heap.size w V → Calls Tryz.prog 26 #[tyv k s, tyv k' s'] V fun e w' => e = .returned (.bool c) ∧ Below V.heap.size V w') := Lib.hid fun V hV => hc ▸ rcompare_any k s k' s' V hm hm'
  have H23 : Hid (∀ V, Below w.heap.size w V → Calls Tryz.prog 23 #[tyv k s, tyv 3 ⟨#[]⟩] V fun e w' => e = .returned (.bool r) ∧ Below V.heap.size V w') := Lib.hid fun V hV => hr ▸ yassign_to k s V hm (glob_below hG.1 hV)
  have HS := Lib.hid (S2.start w k s k' s')
  have ec : (c == c) = true := by simp
  have er : (r == r) = true := by simp
  clear hG hm hm' hm0 hc hr
  go_enter Tryz.func6, Tryz.ntmps6
  go_wp2_with fail
  refine (HA.out _ HS.out.b).mono ?_
  rintro e V ⟨rfl, hb⟩
  have HS1 := Lib.hid (Sn.start (HS.out.keep hb))
  obtain ⟨⟨z, a0, a1, c0, c1, _⟩, zq, n0, n1⟩ := HS1.out
  have hz1 : w.heap.size + 1 < V.heap.size := (HS.out.keep hb).z
  clear hb
  have y0 : w.heap.size < V.heap.size := by omega
  have m0 : ¬ w.heap.size = V.heap.size := by omega
  have m1 : ¬ w.heap.size + 1 = V.heap.size := by omega
  go_wp2_with fail
  refine (H25.out _ HS1.out.s.b).mono ?_
  rintro e V2 ⟨rfl, hb⟩
  have HS2 := Lib.hid (HS1.out.keep hb)
  clear hb z a0 a1 c0 c1 zq n0 n1 hz1 y0 m0 m1
  go_wp2_with fail
  clear HS1
  go_region_held3 (fun w' => w.heap.size + 1 < w'.heap.size ∧ V.heap.size < w'.heap.size ∧ w'.cell? ⟨w.heap.size, 0, none⟩ = some (.int .i64 k) ∧ w'.cell? ⟨w.heap.size, 1, none⟩ = some (.string s) ∧ w'.cell? ⟨w.heap.size + 1, 0, none⟩ = some (.int .i64 k') ∧ w'.cell? ⟨w.heap.size + 1, 1, none⟩ = some (.string s') ∧ w'.cell? ⟨V.heap.size, 0, none⟩ = some (.int .i64 3) ∧ w'.cell? ⟨V.heap.size, 1, none⟩ = some (.string ⟨#[]⟩) ∧ Below w.heap.size w w')
    (first
      | exact HS2.out.dr.dd
      | exact Sn.kp (by first | assumption | exact HS2.out.dr.dd) hb)
    (first
      | (go_at_call 26; (with_reducible refine (H26.out _ ?_).mono ?_); (go_split_ands; assumption); rintro e w' ⟨rfl, hb⟩)
      | (go_at_call 25; (with_reducible refine (H25'.out _ ?_).mono ?_); (go_split_ands; assumption); rintro e w' ⟨rfl, hb⟩)
      | (go_at_call 25; (with_reducible refine (H25n.out _ ?_).mono ?_); (go_split_ands; assumption); rintro e w' ⟨rfl, hb⟩)
      | (go_at_call 23; (with_reducible refine (H23.out _ ?_).mono ?_); (go_split_ands; assumption); rintro e w' ⟨rfl, hb⟩))
  all_goals
    have HBE : Hid (Below w.heap.size w w') := Lib.hid (by go_split_ands; assumption)
    go_wp2
    go_ret
    exact ⟨rfl, HBE.out⟩
end Go.Proofs.YtijhdlmnoinfiaaGreatDoor
