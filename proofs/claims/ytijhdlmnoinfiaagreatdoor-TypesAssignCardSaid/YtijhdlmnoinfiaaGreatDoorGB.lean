/-
  The walk of the law TypesText.
-/
import Derived.Test.YtijhdlmnoinfiaaGreatDoorGA
import Derived.Test.YtijhdlmnoinfiaaGreatDoorFG
set_option linter.all false
namespace Go.Proofs.YtijhdlmnoinfiaaGreatDoor
open Go.RowKit T T.Fo Ty

/-- Different valid types have different texts. -/
theorem txt_inj {k k' : Int} {s s' : ByteArray} (h : vB k s = true) (h' : vB k' s' = true) (e : txt k s = txt k' s') : k = k' ∧ s.toList = s'.toList := by
  have te : ∀ {k : Int} {s : ByteArray}, vB k s = true → ¬ k = 4 → s.toList = [] := by
    intro k s hv h4
    unfold vB emp at hv
    rw [if_neg h4] at hv
    simp at hv
    exact hv.1.1
  have t4 : ∀ {s : ByteArray}, vB 4 s = true → txt 4 s = 42 :: s.data.toList := by
    intro s hv
    unfold txt; rw [hv]; rfl
  have na : ∀ n : Nat, n ≤ 12 → n ≠ 4 → ∀ l : List UInt8, txArr.getD n [] ≠ 42 :: l := by
    intro n hn h4 l
    match n, hn, h4 with
    | 0, _, _ => simp [txArr]
    | 1, _, _ => simp [txArr]
    | 2, _, _ => simp [txArr]
    | 3, _, _ => simp [txArr]
    | 5, _, _ => simp [txArr]
    | 6, _, _ => simp [txArr]
    | 7, _, _ => simp [txArr]
    | 8, _, _ => simp [txArr]
    | 9, _, _ => simp [txArr]
    | 10, _, _ => simp [txArr]
    | 11, _, _ => simp [txArr]
    | 12, _, _ => simp [txArr]
  by_cases h4 : k = 4
  · by_cases h4' : k' = 4
    · subst h4; subst h4'
      rw [t4 h, t4 h'] at e
      refine ⟨rfl, ?_⟩
      rw [ByteArray.toList_eq, ByteArray.toList_eq]
      exact List.tail_eq_of_cons_eq e
    · obtain ⟨n, rfl, hn, hn4⟩ := vB_num h' h4'
      subst h4
      rw [t4 h, txt_at n s' hn hn4 h'] at e
      exact absurd e.symm (na n hn hn4 _)
  · by_cases h4' : k' = 4
    · obtain ⟨n, rfl, hn, hn4⟩ := vB_num h h4
      subst h4'
      rw [t4 h', txt_at n s hn hn4 h] at e
      exact absurd e (na n hn hn4 _)
    · refine ⟨?_, (te h h4).trans (te h' h4').symm⟩
      obtain ⟨n, rfl, hn, hn4⟩ := vB_num h h4
      obtain ⟨m, rfl, hm, hm4⟩ := vB_num h' h4'
      rw [txt_at n s hn hn4 h, txt_at m s' hm hm4 h'] at e
      have key : ∀ a b : Fin 13, a.val ≠ 4 → b.val ≠ 4 → txArr.getD a.val [] = txArr.getD b.val [] → a = b := by decide
      have := key ⟨n, by omega⟩ ⟨m, by omega⟩ hn4 hm4 e
      have := congrArg Fin.val this
      simp at this
      omega
theorem txtB_list (k : Int) (s : ByteArray) : (txtB k s).toList = txt k s := by rw [ByteArray.toList_eq]; rfl

def NB (v v' : Bool) (t t' : ByteArray) : Prop := v = true → v' = true → ¬ t.toList = t'.toList
theorem mk_s2 {w V : World} {k k' : Int} {s s' : ByteArray} (h : w.heap.size + 1 < V.heap.size ∧ V.cell? ⟨w.heap.size, 0, none⟩ = some (.int .i64 k) ∧ V.cell? ⟨w.heap.size, 1, none⟩ = some (.string s) ∧ V.cell? ⟨w.heap.size + 1, 0, none⟩ = some (.int .i64 k') ∧ V.cell? ⟨w.heap.size + 1, 1, none⟩ = some (.string s') ∧ Below w.heap.size w V) : S2 w k s k' s' V :=
  ⟨h.1, h.2.1, h.2.2.1, h.2.2.2.1, h.2.2.2.2.1, h.2.2.2.2.2⟩
set_option maxRecDepth 100000 in
set_option maxHeartbeats 8000000 in
theorem text_law (k : Int) (s : ByteArray) (k' : Int) (s' : ByteArray) (w : World) (hG : Glot w) (hm : s.size ≤ maxLen) (hm' : s'.size ≤ maxLen) : Calls Tryz.prog 4 #[tyv k s, tyv k' s'] w fun e w' => e = .returned (.bool true) ∧ Below w.heap.size w w' := by
  obtain ⟨t, ht⟩ : ∃ t, txtB k s = t := ⟨_, rfl⟩
  obtain ⟨t', ht'⟩ : ∃ t, txtB k' s' = t := ⟨_, rfl⟩
  obtain ⟨v, hv⟩ : ∃ v, vB k s = v := ⟨_, rfl⟩
  obtain ⟨v', hv'⟩ : ∃ v, vB k' s' = v := ⟨_, rfl⟩
  obtain ⟨a, ha⟩ : ∃ v, valB k s = v := ⟨_, rfl⟩
  obtain ⟨c, hc⟩ : ∃ v, celB k s = v := ⟨_, rfl⟩
  have HI : Hid (v = true → v' = true → t.toList = t'.toList → k = k' ∧ s.toList = s'.toList) := Lib.hid fun h1 h2 h3 => txt_inj (hv.trans h1) (hv'.trans h2) (by rw [← txtB_list, ← txtB_list, ht, ht']; exact h3)
  have HA : Hid (∀ V, Below w.heap.size w V → Calls Tryz.prog 10 #[] V fun e w' => e = .returned (.bool true) ∧ Below V.heap.size V w') := Lib.hid fun V hV => awake_any V (hG.below hV)
  have H16 : Hid (∀ V, Below w.heap.size w V → Calls Tryz.prog 16 #[tyv k s] V fun e w' => e = .returned (.string t) ∧ Below V.heap.size V w') := Lib.hid fun V hV => ht ▸ ytext_any k s V hm (hG.below hV)
  have H16' : Hid (∀ V, Below w.heap.size w V → Calls Tryz.prog 16 #[tyv k' s'] V fun e w' => e = .returned (.string t') ∧ Below V.heap.size V w') := Lib.hid fun V hV => ht' ▸ ytext_any k' s' V hm' (hG.below hV)
  have H17 : Hid (∀ V, Below w.heap.size w V → Calls Tryz.prog 17 #[tyv k s] V fun e w' => e = .returned (.string t) ∧ Below V.heap.size V w') := Lib.hid fun V hV => ht ▸ rtext_any k s V hm
  have H18 : Hid (∀ V, Below w.heap.size w V → Calls Tryz.prog 18 #[tyv k s] V fun e w' => e = .returned (.int .i64 c) ∧ Below V.heap.size V w') := Lib.hid fun V hV => hc ▸ ycell_any k s V hm (glob_below hG.1 hV)
  have H19 : Hid (∀ V, Below w.heap.size w V → Calls Tryz.prog 19 #[tyv k s] V fun e w' => e = .returned (.int .i64 c) ∧ Below V.heap.size V w') := Lib.hid fun V hV => hc ▸ rcell_any k s V hm
  have H20 : Hid (∀ V, Below w.heap.size w V → Calls Tryz.prog 20 #[tyv k s] V fun e w' => e = .returned (.bool a) ∧ Below V.heap.size V w') := Lib.hid fun V hV => ha ▸ yvalue_any k s V hm (glob_below hG.1 hV)
  have H21 : Hid (∀ V, Below w.heap.size w V → Calls Tryz.prog 21 #[tyv k s] V fun e w' => e = .returned (.bool a) ∧ Below V.heap.size V w') := Lib.hid fun V hV => ha ▸ rvalue_any k s V hm
  have H22 : Hid (∀ V, Below w.heap.size w V → Calls Tryz.prog 22 #[tyv k s] V fun e w' => e = .returned (.bool v) ∧ Below V.heap.size V w') := Lib.hid fun V hV => hv ▸ rvalid_any k s V hm
  have H22' : Hid (∀ V, Below w.heap.size w V → Calls Tryz.prog 22 #[tyv k' s'] V fun e w' => e = .returned (.bool v') ∧ Below V.heap.size V w') := Lib.hid fun V hV => hv' ▸ rvalid_any k' s' V hm'
  have HS := Lib.hid (S2.start w k s k' s')
  have et : (t.toList != t.toList) = false := by simp
  have ec : (c != c) = false := by simp
  have ea : (a != a) = false := by simp
  clear hG hm hm' ht ht' hv hv' ha hc
  go_enter Tryz.func4, Tryz.ntmps4
  go_wp2_with fail
  refine (HA.out _ HS.out.b).mono ?_
  rintro e V ⟨rfl, hb⟩
  have HS1 := Lib.hid (HS.out.keep hb)
  obtain ⟨z, a0, a1, c0, c1, _⟩ := HS1.out
  clear hb
  go_wp2_with fail
  refine (H16.out _ HS1.out.b).mono ?_
  rintro e V2 ⟨rfl, hb⟩
  have HS2 := Lib.hid (HS1.out.keep hb)
  clear hb z a0 a1 c0 c1
  go_wp2_with fail
  go_region_held3 (fun w' => w.heap.size + 1 < w'.heap.size ∧ w'.cell? ⟨w.heap.size, 0, none⟩ = some (.int .i64 k) ∧ w'.cell? ⟨w.heap.size, 1, none⟩ = some (.string s) ∧ w'.cell? ⟨w.heap.size + 1, 0, none⟩ = some (.int .i64 k') ∧ w'.cell? ⟨w.heap.size + 1, 1, none⟩ = some (.string s') ∧ Below w.heap.size w w')
    (first
      | exact HS2.out.dr.dd
      | exact S2.kp (by first | assumption | exact HS2.out.dr.dd) hb)
    (first
      | (go_at_call 17; (with_reducible refine (H17.out _ ?_).mono ?_); (go_split_ands; assumption); rintro e w' ⟨rfl, hb⟩)
      | (go_at_call 18; (with_reducible refine (H18.out _ ?_).mono ?_); (go_split_ands; assumption); rintro e w' ⟨rfl, hb⟩)
      | (go_at_call 19; (with_reducible refine (H19.out _ ?_).mono ?_); (go_split_ands; assumption); rintro e w' ⟨rfl, hb⟩)
      | (go_at_call 20; (with_reducible refine (H20.out _ ?_).mono ?_); (go_split_ands; assumption); rintro e w' ⟨rfl, hb⟩)
      | (go_at_call 21; (with_reducible refine (H21.out _ ?_).mono ?_); (go_split_ands; assumption); rintro e w' ⟨rfl, hb⟩))
  have HS3 : Hid (S2 w k s k' s' w') := Lib.hid (mk_s2 (by assumption))
  obtain ⟨z, a0, a1, c0, c1, _⟩ := HS3.out
  by_cases hk : k = k'
  · subst hk
    have hkk : (k == k) = true := by simp
    by_cases hs : s.toList = s'.toList
    · go_wp2
      go_ret
      exact ⟨rfl, HS3.out.b⟩
    · have hss : (s.toList == s'.toList) = false := by simpa using hs
      have HN : Hid (NB v v' t t') := Lib.hid fun h1 h2 h3 => hs (HI.out h1 h2 h3).2
      clear hs HI
      cases v <;> cases v' <;>
      · go_wp2_with (first
          | (go_at_call 16; (with_reducible refine (H16'.out _ HS3.out.b).mono ?_); rintro e V3 ⟨rfl, hb⟩; have HS4 := Lib.hid (HS3.out.keep hb); obtain ⟨z4, a04, a14, c04, c14, _⟩ := HS4.out; clear hb)
          | (go_at_call 22; (with_reducible refine (H22.out _ HS4.out.b).mono ?_); rintro e V4 ⟨rfl, hb⟩; have HS5 := Lib.hid (HS4.out.keep hb); obtain ⟨z5, a05, a15, c05, c15, _⟩ := HS5.out; clear hb)
          | (go_at_call 22; (with_reducible refine (H22'.out _ HS5.out.b).mono ?_); rintro e V5 ⟨rfl, hb⟩; have HS6 := Lib.hid (HS5.out.keep hb); clear hb))
        all_goals go_ret
        all_goals first
          | exact ⟨rfl, HS6.out.b⟩
          | exact ⟨rfl, HS5.out.b⟩
          | exact ⟨rfl, HS4.out.b⟩
          | exact ⟨rfl, HS3.out.b⟩
          | exact absurd (by assumption) (HN.out rfl rfl)
  · have hkk : (k == k') = false := by simpa using hk
    have HN : Hid (NB v v' t t') := Lib.hid fun h1 h2 h3 => hk (HI.out h1 h2 h3).1
    clear hk HI
    cases v <;> cases v' <;>
    · go_wp2_with (first
        | (go_at_call 16; (with_reducible refine (H16'.out _ HS3.out.b).mono ?_); rintro e V3 ⟨rfl, hb⟩; have HS4 := Lib.hid (HS3.out.keep hb); obtain ⟨z4, a04, a14, c04, c14, _⟩ := HS4.out; clear hb)
        | (go_at_call 22; (with_reducible refine (H22.out _ HS4.out.b).mono ?_); rintro e V4 ⟨rfl, hb⟩; have HS5 := Lib.hid (HS4.out.keep hb); obtain ⟨z5, a05, a15, c05, c15, _⟩ := HS5.out; clear hb)
        | (go_at_call 22; (with_reducible refine (H22'.out _ HS5.out.b).mono ?_); rintro e V5 ⟨rfl, hb⟩; have HS6 := Lib.hid (HS5.out.keep hb); clear hb))
      all_goals go_ret
      all_goals first
        | exact ⟨rfl, HS6.out.b⟩
        | exact ⟨rfl, HS5.out.b⟩
        | exact ⟨rfl, HS4.out.b⟩
        | exact ⟨rfl, HS3.out.b⟩
        | exact absurd (by assumption) (HN.out rfl rfl)
end Go.Proofs.YtijhdlmnoinfiaaGreatDoor
