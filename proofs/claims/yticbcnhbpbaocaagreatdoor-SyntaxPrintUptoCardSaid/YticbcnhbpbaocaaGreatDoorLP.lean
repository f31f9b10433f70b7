/-
  The walk of the law SyntaxPrint.
-/
import Derived.Test.YticbcnhbpbaocaaGreatDoorLA
import Derived.Test.YticbcnhbpbaocaaGreatDoorYD
import Derived.Deep.RegionHeld3
set_option linter.all false
namespace Go.Proofs.YticbcnhbpbaocaaGreatDoor
open Go.RowKit T T.Fo
set_option linter.all false
set_option maxRecDepth 100000 in
set_option maxHeartbeats 8000000 in
theorem printL_any (h : Hd) (F : Fo) (A : Option Addr) (cap : Nat) (w : World) (hG : Glob w) (hT : Tb w) (h16 : 5 ≤ w.heap.size) (hk : Kids (Lt w.heap.size) w A F) (hn : numIx h) (hF : F.AllH numIx) (hc : F.cnt + 1 ≤ 1048576) : Calls Tryz.prog 7 #[nv h A F.len cap] w fun e w' => e = .returned (.bool true) ∧ Below w.heap.size w w' := by
  have HB0 : Hid (Below w.heap.size w (w.alloc (bx h A F.len cap))) := Lib.hid ((Below.refl _ _).alloc (Nat.le_refl _) _)
  have N0 : Hid (Nb (w.alloc (bx h A F.len cap)) w.heap.size h A F.len cap) := Lib.hid (Nb.new w h A F.len cap)
  have HAW : Hid (Calls Tryz.prog 10 #[] (w.alloc (bx h A F.len cap)) fun e w' => e = .returned (.bool true) ∧ Below (w.alloc (bx h A F.len cap)).heap.size (w.alloc (bx h A F.len cap)) w') := Lib.hid (awake_any _ (glob_below hG HB0.out) (hT.below HB0.out h16) (by simp; omega))
  have hGr : ∀ V, Below w.heap.size w V → Calls Tryz.prog 11 #[nv h A F.len cap] V fun e w' => e = .returned (.bool (decide (300 < F.cnt + 1))) ∧ Below V.heap.size V w' := fun V hV => by
    by_cases g : F.cnt + 1 ≤ 300
    · rw [decide_eq_false (by omega)]; exact great_no (kids_at hk hV) hc g
    · rw [decide_eq_true (by omega)]; exact great_yes (kids_at hk hV) hc g
  obtain ⟨gv, hgv⟩ : ∃ v, decide (300 < F.cnt + 1) = v := ⟨_, rfl⟩
  rw [hgv] at hGr
  have HGr := Lib.hid hGr
  have HCP : Hid (∀ V, Below w.heap.size w V → Calls Tryz.prog 12 #[nv h A F.len cap] V fun e w' => ∃ A c, e = .returned (nv h A F.len c) ∧ (Kids (Lt w'.heap.size) w' A F ∧ F.len ≤ c) ∧ Below V.heap.size V w') := Lib.hid fun V hV => (copy_any h F A cap V (kids_at hk hV) hc).mono fun e w' hq => by
    obtain ⟨A, c, he, hl, hk, hb⟩ := hq
    exact ⟨A, c, he, ⟨hk.carry fun b hb => ⟨hb.2, rfl⟩, hl⟩, hb⟩
  have HP1 : Hid (∀ V A1 c1, Below w.heap.size w V → (Kids (Lt V.heap.size) V A1 F ∧ F.len ≤ c1) → Calls Tryz.prog 23 #[nv h A1 F.len c1] V fun e w' => e = .returned (.string (tx (printT nm h F))) ∧ Below V.heap.size V w') := Lib.hid fun V A1 c1 hV hk1 => print_any h F A1 c1 V (glob_below hG hV) (hT.below hV h16) (by have := hV.size; omega) hk1.2 hk1.1 hn hF hc
  have HP2 : Hid (∀ V, Below w.heap.size w V → Calls Tryz.prog 24 #[nv h A F.len cap] V fun e w' => e = .returned (.string (tx (printT nm h F))) ∧ Below V.heap.size V w') := Lib.hid fun V hV => rprint_any h F A cap V (kids_at hk hV) hn hF hc
  obtain ⟨x, hx⟩ : ∃ x, tx (printT nm h F) = x := ⟨_, rfl⟩
  obtain ⟨na, hna⟩ : ∃ n, F.len = n := ⟨_, rfl⟩
  rw [hx] at HP1 HP2
  rw [hna] at HB0 N0 HAW HGr HCP HP1 HP2 ⊢
  clear hG hT hk hn hF hc hGr hgv hna hx
  go_enter Tryz.func7, Tryz.ntmps7
  go_wp2_with (go_at_call 10; refine HAW.out.mono ?_; rintro e w1 ⟨rfl, hb1⟩; have B1 : Hid (Below w.heap.size w w1) := Lib.hid (HB0.out.trans (hb1.mono (by simp))); have N1 := Lib.hid (N0.out.below hb1); obtain ⟨p0, p1, p2, p3, p4, p5, p6, p7, p8⟩ := N1.out.cells; clear hb1)
  have HS := Lib.hid (LB1.mk N1.out B1.out)
  cases gv with
  | true =>
    have HGV := Lib.hid (HGr.out _ (Below.drew B1.out))
    have HGW := Lib.hid (HGr.out _ B1.out)
    go_region_with (first
      | (go_simp; go_at_call 11; refine HGV.out.mono ?_; rintro e w' ⟨rfl, hbb⟩; have HBE := Lib.hid ((Below.drew B1.out).trans (hbb.mono (Below.drew B1.out).size)); clear hbb)
      | (go_simp; go_at_call 11; refine HGW.out.mono ?_; rintro e w' ⟨rfl, hbb⟩; have HBE := Lib.hid (B1.out.trans (hbb.mono B1.out.size)); clear hbb))
    all_goals
      go_wp2
      go_ret
      exact ⟨rfl, HBE.out⟩
  | false =>
    go_region_held3 (fun w' => w'.cell? ⟨w.heap.size, 0, none⟩ = some (.int .i64 h.kind) ∧ w'.cell? ⟨w.heap.size, 1, none⟩ = some (.string h.text) ∧ w'.cell? ⟨w.heap.size, 2, none⟩ = some (.int .i64 h.num) ∧ w'.cell? ⟨w.heap.size, 3, none⟩ = some (.int .i64 h.pos) ∧ w'.cell? ⟨w.heap.size, 4, none⟩ = some (.slice A na cap) ∧ w'.cell? ⟨w.heap.size, 5, none⟩ = some (.int .i64 h.tk) ∧ w'.cell? ⟨w.heap.size, 6, none⟩ = some (.string h.tn) ∧ w'.cell? ⟨w.heap.size, 7, none⟩ = some (.int .i64 h.ref) ∧ w'.cell? ⟨w.heap.size, 8, none⟩ = some (.int .i64 h.up) ∧ Below w.heap.size w w')
      (first | exact HS.out.start | exact LB1.keep (by assumption) hbb)
      (first
        | (go_at_call 11; (with_reducible refine (HGr.out _ ?_).mono ?_); (go_split_ands; assumption); rintro e w' ⟨rfl, hbb⟩)
        | (go_at_call 12; (with_reducible refine (HCP.out _ ?_).mono ?_); (go_split_ands; assumption); rintro e w' ⟨A1, c1, rfl, k8, hbb⟩)
        | (go_at_call 23; (with_reducible refine (HP1.out _ _ _ ?_ k8).mono ?_); (go_split_ands; assumption); rintro e w' ⟨rfl, hbb⟩)
        | (go_at_call 23; (with_reducible refine (HP1.out _ _ _ ?_ ⟨kids_at k8.1 hbb, k8.2⟩).mono ?_); (go_split_ands; assumption); rintro e w' ⟨rfl, hbb⟩)
        | (go_at_call 24; (with_reducible refine (HP2.out _ ?_).mono ?_); (go_split_ands; assumption); rintro e w' ⟨rfl, hbb⟩))
    all_goals
      have HBE : Hid (Below w.heap.size w w') := Lib.hid (by go_split_ands; assumption)
      go_wp2
      go_ret
      exact ⟨by simp, HBE.out⟩
end Go.Proofs.YticbcnhbpbaocaaGreatDoor
