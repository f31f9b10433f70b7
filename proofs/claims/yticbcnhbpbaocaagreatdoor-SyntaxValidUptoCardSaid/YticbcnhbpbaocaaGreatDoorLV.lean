/-
  The walk of the law SyntaxValid.
-/
import Derived.Test.YticbcnhbpbaocaaGreatDoorLA
import Derived.Test.YticbcnhbpbaocaaGreatDoorRL
import Derived.Deep.RegionHeld3
set_option linter.all false
namespace Go.Proofs.YticbcnhbpbaocaaGreatDoor
open Go.RowKit T T.Fo
theorem nm_nmv : (nm : ByteArray → Bool) = nmv := funext fun s => M.nmS_eq _
set_option maxRecDepth 100000 in
set_option maxHeartbeats 8000000 in
theorem valid_law (h : Hd) (F : Fo) (A : Option Addr) (cap : Nat) (w : World) (hG : Glob w) (hT : Tb w) (h16 : 5 ≤ w.heap.size) (hk : Kids (Lt w.heap.size) w A F) (hn : numIx h) (hF : F.AllH numIx) (hc : F.cnt + 1 ≤ 1048576) : Calls Tryz.prog 3 #[nv h A F.len cap] w fun e w' => e = .returned (.bool true) ∧ Below w.heap.size w w' := by
  have HB0 : Hid (Below w.heap.size w (w.alloc (bx h A F.len cap))) := Lib.hid ((Below.refl _ _).alloc (Nat.le_refl _) _)
  have N0 : Hid (Nb (w.alloc (bx h A F.len cap)) w.heap.size h A F.len cap) := Lib.hid (Nb.new w h A F.len cap)
  have HAW : Hid (Calls Tryz.prog 10 #[] (w.alloc (bx h A F.len cap)) fun e w' => e = .returned (.bool true) ∧ Below (w.alloc (bx h A F.len cap)).heap.size (w.alloc (bx h A F.len cap)) w') := Lib.hid (awake_any _ (glob_below hG HB0.out) (hT.below HB0.out h16) (by simp; omega))
  have hGr : ∀ V, Below w.heap.size w V → Calls Tryz.prog 11 #[nv h A F.len cap] V fun e w' => e = .returned (.bool (decide (300 < F.cnt + 1))) ∧ Below V.heap.size V w' := fun V hV => by
    by_cases g : F.cnt + 1 ≤ 300
    · rw [decide_eq_false (by omega)]; exact great_no (kids_at hk hV) hc g
    · rw [decide_eq_true (by omega)]; exact great_yes (kids_at hk hV) hc g
  obtain ⟨gv, hgv⟩ : ∃ v, decide (300 < F.cnt + 1) = v := ⟨_, rfl⟩
  rw [hgv] at hGr
  have HGr := Lib.hid hGr
  obtain ⟨v, hv⟩ : ∃ v, validT nm h F = v := ⟨_, rfl⟩
  obtain ⟨m, hm⟩ : ∃ m, F.cnt + 1 = m := ⟨_, rfl⟩
  have HCP : Hid (∀ V, Below w.heap.size w V → Calls Tryz.prog 12 #[nv h A F.len cap] V fun e w' => ∃ A c, e = .returned (nv h A F.len c) ∧ (Kids (Lt w'.heap.size) w' A F ∧ F.len ≤ c) ∧ Below V.heap.size V w') := Lib.hid fun V hV => (copy_any h F A cap V (kids_at hk hV) hc).mono fun e w' hq => by
    obtain ⟨A, c, he, hl, hk, hb⟩ := hq
    exact ⟨A, c, he, ⟨hk.carry fun b hb => ⟨hb.2, rfl⟩, hl⟩, hb⟩
  have HV1 : Hid (∀ W V A1 c1, Below w.heap.size w W → (Kids (Lt W.heap.size) W A1 F ∧ F.len ≤ c1) → Below W.heap.size W V → Calls Tryz.prog 13 #[nv h A1 F.len c1] V fun e w' => e = .returned (.bool v) ∧ Below V.heap.size V w') := Lib.hid fun W V A1 c1 hW hk1 hV => by
    have := valid_any h F A1 c1 V (glob_below hG (hW.trans (hV.mono hW.size))) (kids_at hk1.1 hV) hn hF (by omega)
    rw [hv] at this
    exact this
  have HV2 : Hid (∀ W V, Below w.heap.size w W → Below W.heap.size W V → Calls Tryz.prog 14 #[nv h A F.len cap] V fun e w' => e = .returned (.bool v) ∧ Below V.heap.size V w') := Lib.hid fun W V hW hV => by
    have := rvalid_any h F A cap V ⟨hn, hF, by omega⟩ (kids_at hk (hW.trans (hV.mono hW.size)))
    rw [← nm_nmv, hv] at this
    exact this
  have HC1 : Hid (∀ W V A1 c1, (Kids (Lt W.heap.size) W A1 F ∧ F.len ≤ c1) → Below W.heap.size W V → Calls Tryz.prog 15 #[nv h A1 F.len c1] V fun e w' => e = .returned (.int .i64 (m : Int)) ∧ Below V.heap.size V w') := Lib.hid fun W V A1 c1 hk1 hV => scount_any h F A1 c1 V m hk1.2 (kids_at hk1.1 hV) hm (by omega)
  have HC2 : Hid (∀ W V, Below w.heap.size w W → Below W.heap.size W V → Calls Tryz.prog 16 #[nv h A F.len cap] V fun e w' => e = .returned (.int .i64 (m : Int)) ∧ Below V.heap.size V w') := Lib.hid fun W V hW hV => count_any h F A cap V m (kids_at hk (hW.trans (hV.mono hW.size))) hm (by unfold maxLen; omega)
  have HSM : Hid (∀ W V A1 c1, Below w.heap.size w W → (Kids (Lt W.heap.size) W A1 F ∧ F.len ≤ c1) → Below W.heap.size W V → Calls Tryz.prog 17 #[nv h A1 F.len c1, nv h A F.len cap] V fun e w' => e = .returned (.bool true) ∧ Below V.heap.size V w') := Lib.hid fun W V A1 c1 hW hk1 hV => by
    have := same_any h F h F A1 A c1 cap V (kids_at hk1.1 hV) (kids_at hk (hW.trans (hV.mono hW.size))) (by unfold maxLen; omega) (by unfold maxLen; omega)
    exact this.mono fun e w' hq => ⟨by rw [hq.1]; unfold sameT; simp, hq.2⟩
  obtain ⟨na, hna⟩ : ∃ n, F.len = n := ⟨_, rfl⟩
  rw [hna] at HB0 N0 HAW HGr HCP HV1 HV2 HC1 HC2 HSM ⊢
  have evv : (v == v) = true := by simp
  have emm : ((m : Int) == (m : Int)) = true := by simp
  clear hG hT hk hn hF hc hGr hgv hv hm hna
  cases gv with
  | true =>
    go_enter Tryz.func3, Tryz.ntmps3
    go_wp2_with (first
      | (go_at_call 11; refine (HGr.out _ B1.out).mono ?_; rintro e w2 ⟨rfl, hb2⟩; have B2 : Hid (Below w.heap.size w w2) := Lib.hid (B1.out.trans (hb2.mono B1.out.size)); clear hb2)
      | (go_at_call 10; refine HAW.out.mono ?_; rintro e w1 ⟨rfl, hb1⟩; have B1 : Hid (Below w.heap.size w w1) := Lib.hid (HB0.out.trans (hb1.mono (by simp))); have N1 := Lib.hid (N0.out.below hb1); obtain ⟨p0, p1, p2, p3, p4, p5, p6, p7, p8⟩ := N1.out.cells; clear hb1))
    go_ret
    exact ⟨rfl, B2.out⟩
  | false =>
    go_enter Tryz.func3, Tryz.ntmps3
    go_wp2_with (first
      | (go_at_call 12; (with_reducible refine (HCP.out _ B2.out).mono ?_); rintro e w4 ⟨A1, c1, rfl, hk4, hb4⟩; have B4 : Hid (Below w.heap.size w w4) := Lib.hid (B2.out.trans (hb4.mono B2.out.size)); have N4 := Lib.hid (N2.out.below hb4); have HK4 := Lib.hid hk4; clear hb4 hk4)
      | (go_at_call 11; refine (HGr.out _ B1.out).mono ?_; rintro e w2 ⟨rfl, hb2⟩; have B2 : Hid (Below w.heap.size w w2) := Lib.hid (B1.out.trans (hb2.mono B1.out.size)); have N2 := Lib.hid (N1.out.below hb2); obtain ⟨p20, p21, p22, p23, p24, p25, p26, p27, p28⟩ := N2.out.cells; clear hb2)
      | (go_at_call 10; refine HAW.out.mono ?_; rintro e w1 ⟨rfl, hb1⟩; have B1 : Hid (Below w.heap.size w w1) := Lib.hid (HB0.out.trans (hb1.mono (by simp))); have N1 := Lib.hid (N0.out.below hb1); obtain ⟨p0, p1, p2, p3, p4, p5, p6, p7, p8⟩ := N1.out.cells; clear hb1))
    have B45 : Below w4.heap.size w4 (w4.alloc (bx h A1 na c1)) := (Below.refl _ _).alloc (Nat.le_refl _) _
    have HS := Lib.hid (LB2.mk (N4.out.below B45) (Nb.new w4 h A1 na c1) B45)
    have HV1' := Lib.hid fun V hV => HV1.out w4 V A1 c1 B4.out HK4.out hV
    have HV2' := Lib.hid fun V hV => HV2.out w4 V B4.out hV
    have HC1' := Lib.hid fun V hV => HC1.out w4 V A1 c1 HK4.out hV
    have HC2' := Lib.hid fun V hV => HC2.out w4 V B4.out hV
    have HSM' := Lib.hid fun V hV => HSM.out w4 V A1 c1 B4.out HK4.out hV
    clear B45
    go_region_held3 (fun w' => w'.cell? ⟨w.heap.size, 0, none⟩ = some (.int .i64 h.kind) ∧ w'.cell? ⟨w.heap.size, 1, none⟩ = some (.string h.text) ∧ w'.cell? ⟨w.heap.size, 2, none⟩ = some (.int .i64 h.num) ∧ w'.cell? ⟨w.heap.size, 3, none⟩ = some (.int .i64 h.pos) ∧ w'.cell? ⟨w.heap.size, 4, none⟩ = some (.slice A na cap) ∧ w'.cell? ⟨w.heap.size, 5, none⟩ = some (.int .i64 h.tk) ∧ w'.cell? ⟨w.heap.size, 6, none⟩ = some (.string h.tn) ∧ w'.cell? ⟨w.heap.size, 7, none⟩ = some (.int .i64 h.ref) ∧ w'.cell? ⟨w.heap.size, 8, none⟩ = some (.int .i64 h.up) ∧ w'.cell? ⟨w4.heap.size, 0, none⟩ = some (.int .i64 h.kind) ∧ w'.cell? ⟨w4.heap.size, 1, none⟩ = some (.string h.text) ∧ w'.cell? ⟨w4.heap.size, 2, none⟩ = some (.int .i64 h.num) ∧ w'.cell? ⟨w4.heap.size, 3, none⟩ = some (.int .i64 h.pos) ∧ w'.cell? ⟨w4.heap.size, 4, none⟩ = some (.slice A1 na c1) ∧ w'.cell? ⟨w4.heap.size, 5, none⟩ = some (.int .i64 h.tk) ∧ w'.cell? ⟨w4.heap.size, 6, none⟩ = some (.string h.tn) ∧ w'.cell? ⟨w4.heap.size, 7, none⟩ = some (.int .i64 h.ref) ∧ w'.cell? ⟨w4.heap.size, 8, none⟩ = some (.int .i64 h.up) ∧ Below w4.heap.size w4 w')
      (first
        | exact HS.out.start
        | exact LB2.keep (by assumption) hb)
      (first
        | (go_at_call 13; (with_reducible refine (HV1'.out _ ?_).mono ?_); (go_split_ands; assumption); rintro e w' ⟨rfl, hb⟩)
        | (go_at_call 14; (with_reducible refine (HV2'.out _ ?_).mono ?_); (go_split_ands; assumption); rintro e w' ⟨rfl, hb⟩)
        | (go_at_call 15; (with_reducible refine (HC1'.out _ ?_).mono ?_); (go_split_ands; assumption); rintro e w' ⟨rfl, hb⟩)
        | (go_at_call 16; (with_reducible refine (HC2'.out _ ?_).mono ?_); (go_split_ands; assumption); rintro e w' ⟨rfl, hb⟩)
        | (go_at_call 17; (with_reducible refine (HSM'.out _ ?_).mono ?_); (go_split_ands; assumption); rintro e w' ⟨rfl, hb⟩))
    all_goals
      have HBE : Hid (Below w4.heap.size w4 w') := Lib.hid (by go_split_ands; assumption)
      go_wp2
      go_ret
      exact ⟨rfl, B4.out.trans (HBE.out.mono B4.out.size)⟩
end Go.Proofs.YticbcnhbpbaocaaGreatDoor
