/-
  The walk of the law SyntaxStrip.
-/
import Derived.Test.YticbcnhbpbaocaaGreatDoorLA
import Derived.Deep.RegionHeld3

set_option linter.all false
namespace Go.Proofs.YticbcnhbpbaocaaGreatDoor
open Go.RowKit T T.Fo
set_option linter.all false
set_option maxRecDepth 100000 in
set_option maxHeartbeats 4000000 in
theorem strip_ga (ha hb : Hd) (Fa Fb : Fo) (Aa Ab : Option Addr) (ca cb : Nat) (w : World) (hG : Glob w) (hT : Tb w) (h16 : 5 ≤ w.heap.size) (hka : Kids (Lt w.heap.size) w Aa Fa) (hkb : Kids (Lt w.heap.size) w Ab Fb) (hca : Fa.cnt + 1 ≤ 1048576) (hcb : Fb.cnt + 1 ≤ 1048576) (ga : ¬ Fa.cnt + 1 ≤ 300) : Calls Tryz.prog 6 #[nv ha Aa Fa.len ca, nv hb Ab Fb.len cb] w fun e w' => e = .returned (.bool true) ∧ Below w.heap.size w w' := by
  have HB2 : Hid (Below w.heap.size w ((w.alloc (bx ha Aa Fa.len ca)).alloc (bx hb Ab Fb.len cb))) := Lib.hid (below2 w _ _)
  have HZ : Hid (w.heap.size + 2 = ((w.alloc (bx ha Aa Fa.len ca)).alloc (bx hb Ab Fb.len cb)).heap.size) := Lib.hid (by simp)
  have NA : Hid (Nb ((w.alloc (bx ha Aa Fa.len ca)).alloc (bx hb Ab Fb.len cb)) w.heap.size ha Aa Fa.len ca) := Lib.hid ((Nb.new w ha Aa Fa.len ca).below ((Below.refl _ _).alloc (Nat.le_refl _) _))
  have NB : Hid (Nb ((w.alloc (bx ha Aa Fa.len ca)).alloc (bx hb Ab Fb.len cb)) (w.heap.size + 1) hb Ab Fb.len cb) := by
    have := Nb.new (w.alloc (bx ha Aa Fa.len ca)) hb Ab Fb.len cb
    rw [World.size_alloc] at this
    exact Lib.hid this
  have HAW : Hid (Calls Tryz.prog 10 #[] ((w.alloc (bx ha Aa Fa.len ca)).alloc (bx hb Ab Fb.len cb)) fun e w' => e = .returned (.bool true) ∧ Below ((w.alloc (bx ha Aa Fa.len ca)).alloc (bx hb Ab Fb.len cb)).heap.size ((w.alloc (bx ha Aa Fa.len ca)).alloc (bx hb Ab Fb.len cb)) w') := Lib.hid (awake_any _ (glob_below hG HB2.out) (hT.below HB2.out h16) (by simp; omega))
  have HGa : Hid (∀ V, Below w.heap.size w V → Calls Tryz.prog 11 #[nv ha Aa Fa.len ca] V fun e w' => e = .returned (.bool true) ∧ Below V.heap.size V w') := Lib.hid fun V hV => great_yes (kids_at hka hV) hca ga
  obtain ⟨na, hna⟩ : ∃ n, Fa.len = n := ⟨_, rfl⟩
  obtain ⟨nb, hnb⟩ : ∃ n, Fb.len = n := ⟨_, rfl⟩
  rw [hna] at HB2 HZ NA NB HAW HGa ⊢
  rw [hnb] at HB2 HZ NA NB HAW ⊢
  clear hG hT hka hkb hca hcb ga hna hnb
  go_enter Tryz.func6, Tryz.ntmps6
  go_wp2_with (first
    | (go_at_call 11; refine (HGa.out _ B1.out).mono ?_; rintro e w2 ⟨rfl, hb2⟩; have B2 : Hid (Below w.heap.size w w2) := Lib.hid (B1.out.trans (hb2.mono B1.out.size)); have N2 := Lib.hid (N1.out.below hb2); have M2 := Lib.hid (M1.out.below hb2); obtain ⟨p20, p21, p22, p23, p24, p25, p26, p27, p28⟩ := N2.out.cells; obtain ⟨q20, q21, q22, q23, q24, q25, q26, q27, q28⟩ := M2.out.cells; clear hb2)
    | (go_at_call 10; refine HAW.out.mono ?_; rintro e w1 ⟨rfl, hb1⟩; have B1 : Hid (Below w.heap.size w w1) := Lib.hid (HB2.out.trans (hb1.mono (by rw [← HZ.out]; omega))); have N1 := Lib.hid (NA.out.below hb1); have M1 := Lib.hid (NB.out.below hb1); obtain ⟨p0, p1, p2, p3, p4, p5, p6, p7, p8⟩ := N1.out.cells; obtain ⟨q0, q1, q2, q3, q4, q5, q6, q7, q8⟩ := M1.out.cells; clear hb1))
  go_ret
  exact ⟨rfl, B2.out⟩
set_option maxRecDepth 100000 in
set_option maxHeartbeats 4000000 in
theorem strip_gb (ha hb : Hd) (Fa Fb : Fo) (Aa Ab : Option Addr) (ca cb : Nat) (w : World) (hG : Glob w) (hT : Tb w) (h16 : 5 ≤ w.heap.size) (hka : Kids (Lt w.heap.size) w Aa Fa) (hkb : Kids (Lt w.heap.size) w Ab Fb) (hca : Fa.cnt + 1 ≤ 1048576) (hcb : Fb.cnt + 1 ≤ 1048576) (ga : Fa.cnt + 1 ≤ 300) (gb : ¬ Fb.cnt + 1 ≤ 300) : Calls Tryz.prog 6 #[nv ha Aa Fa.len ca, nv hb Ab Fb.len cb] w fun e w' => e = .returned (.bool true) ∧ Below w.heap.size w w' := by
  have HB2 : Hid (Below w.heap.size w ((w.alloc (bx ha Aa Fa.len ca)).alloc (bx hb Ab Fb.len cb))) := Lib.hid (below2 w _ _)
  have HZ : Hid (w.heap.size + 2 = ((w.alloc (bx ha Aa Fa.len ca)).alloc (bx hb Ab Fb.len cb)).heap.size) := Lib.hid (by simp)
  have NA : Hid (Nb ((w.alloc (bx ha Aa Fa.len ca)).alloc (bx hb Ab Fb.len cb)) w.heap.size ha Aa Fa.len ca) := Lib.hid ((Nb.new w ha Aa Fa.len ca).below ((Below.refl _ _).alloc (Nat.le_refl _) _))
  have NB : Hid (Nb ((w.alloc (bx ha Aa Fa.len ca)).alloc (bx hb Ab Fb.len cb)) (w.heap.size + 1) hb Ab Fb.len cb) := by
    have := Nb.new (w.alloc (bx ha Aa Fa.len ca)) hb Ab Fb.len cb
    rw [World.size_alloc] at this
    exact Lib.hid this
  have HAW : Hid (Calls Tryz.prog 10 #[] ((w.alloc (bx ha Aa Fa.len ca)).alloc (bx hb Ab Fb.len cb)) fun e w' => e = .returned (.bool true) ∧ Below ((w.alloc (bx ha Aa Fa.len ca)).alloc (bx hb Ab Fb.len cb)).heap.size ((w.alloc (bx ha Aa Fa.len ca)).alloc (bx hb Ab Fb.len cb)) w') := Lib.hid (awake_any _ (glob_below hG HB2.out) (hT.below HB2.out h16) (by simp; omega))
  have HGa : Hid (∀ V, Below w.heap.size w V → Calls Tryz.prog 11 #[nv ha Aa Fa.len ca] V fun e w' => e = .returned (.bool false) ∧ Below V.heap.size V w') := Lib.hid fun V hV => great_no (kids_at hka hV) hca ga
  have HGb : Hid (∀ V, Below w.heap.size w V → Calls Tryz.prog 11 #[nv hb Ab Fb.len cb] V fun e w' => e = .returned (.bool true) ∧ Below V.heap.size V w') := Lib.hid fun V hV => great_yes (kids_at hkb hV) hcb gb
  obtain ⟨na, hna⟩ : ∃ n, Fa.len = n := ⟨_, rfl⟩
  obtain ⟨nb, hnb⟩ : ∃ n, Fb.len = n := ⟨_, rfl⟩
  rw [hna] at HB2 HZ NA NB HAW HGa ⊢
  rw [hnb] at HB2 HZ NA NB HAW HGb ⊢
  clear hG hT hka hkb hca hcb ga gb hna hnb
  go_enter Tryz.func6, Tryz.ntmps6
  go_wp2_with (first
    | (go_at_call 11; refine (HGb.out _ B2.out).mono ?_; rintro e w3 ⟨rfl, hb3⟩; have B3 : Hid (Below w.heap.size w w3) := Lib.hid (B2.out.trans (hb3.mono B2.out.size)); have N3 := Lib.hid (N2.out.below hb3); have M3 := Lib.hid (M2.out.below hb3); obtain ⟨p30, p31, p32, p33, p34, p35, p36, p37, p38⟩ := N3.out.cells; obtain ⟨q30, q31, q32, q33, q34, q35, q36, q37, q38⟩ := M3.out.cells; clear hb3)
    | (go_at_call 11; refine (HGa.out _ B1.out).mono ?_; rintro e w2 ⟨rfl, hb2⟩; have B2 : Hid (Below w.heap.size w w2) := Lib.hid (B1.out.trans (hb2.mono B1.out.size)); have N2 := Lib.hid (N1.out.below hb2); have M2 := Lib.hid (M1.out.below hb2); obtain ⟨p20, p21, p22, p23, p24, p25, p26, p27, p28⟩ := N2.out.cells; obtain ⟨q20, q21, q22, q23, q24, q25, q26, q27, q28⟩ := M2.out.cells; clear hb2)
    | (go_at_call 10; refine HAW.out.mono ?_; rintro e w1 ⟨rfl, hb1⟩; have B1 : Hid (Below w.heap.size w w1) := Lib.hid (HB2.out.trans (hb1.mono (by rw [← HZ.out]; omega))); have N1 := Lib.hid (NA.out.below hb1); have M1 := Lib.hid (NB.out.below hb1); obtain ⟨p0, p1, p2, p3, p4, p5, p6, p7, p8⟩ := N1.out.cells; obtain ⟨q0, q1, q2, q3, q4, q5, q6, q7, q8⟩ := M1.out.cells; clear hb1))
  go_ret
  exact ⟨rfl, B3.out⟩
theorem sameT_refl (h : Hd) (k : Fo) : sameT h k h k = true := by unfold sameT; simp
theorem same_eq (h : Hd) (k : Fo) (h' : Hd) (k' : Fo) : sameT (bare h) k.strip (bare h') k'.strip = eqT h k h' k' := rfl
/-- Kids that a call has made stand at any later world. -/
theorem made_kids {w V : World} {A : Option Addr} {F : Fo} (hk : Kids (Rng w.heap.size V.heap.size) V A F) : Kids (Lt V.heap.size) V A F := hk.carry fun b hb => ⟨hb.2, rfl⟩
set_option maxRecDepth 100000 in
set_option maxHeartbeats 8000000 in
theorem strip_main (ha hb : Hd) (Fa Fb : Fo) (Aa Ab : Option Addr) (ca cb : Nat) (w : World) (hG : Glob w) (hT : Tb w) (h16 : 5 ≤ w.heap.size) (hka : Kids (Lt w.heap.size) w Aa Fa) (hkb : Kids (Lt w.heap.size) w Ab Fb) (hca : Fa.cnt + 1 ≤ 1048576) (hcb : Fb.cnt + 1 ≤ 1048576) (ga : Fa.cnt + 1 ≤ 300) (gb : Fb.cnt + 1 ≤ 300) : Calls Tryz.prog 6 #[nv ha Aa Fa.len ca, nv hb Ab Fb.len cb] w fun e w' => e = .returned (.bool true) ∧ Below w.heap.size w w' := by
  have HB2 : Hid (Below w.heap.size w ((w.alloc (bx ha Aa Fa.len ca)).alloc (bx hb Ab Fb.len cb))) := Lib.hid (below2 w _ _)
  have HZ : Hid (w.heap.size + 2 = ((w.alloc (bx ha Aa Fa.len ca)).alloc (bx hb Ab Fb.len cb)).heap.size) := Lib.hid (by simp)
  have NA : Hid (Nb ((w.alloc (bx ha Aa Fa.len ca)).alloc (bx hb Ab Fb.len cb)) w.heap.size ha Aa Fa.len ca) := Lib.hid ((Nb.new w ha Aa Fa.len ca).below ((Below.refl _ _).alloc (Nat.le_refl _) _))
  have NB : Hid (Nb ((w.alloc (bx ha Aa Fa.len ca)).alloc (bx hb Ab Fb.len cb)) (w.heap.size + 1) hb Ab Fb.len cb) := by
    have := Nb.new (w.alloc (bx ha Aa Fa.len ca)) hb Ab Fb.len cb
    rw [World.size_alloc] at this
    exact Lib.hid this
  have HAW : Hid (Calls Tryz.prog 10 #[] ((w.alloc (bx ha Aa Fa.len ca)).alloc (bx hb Ab Fb.len cb)) fun e w' => e = .returned (.bool true) ∧ Below ((w.alloc (bx ha Aa Fa.len ca)).alloc (bx hb Ab Fb.len cb)).heap.size ((w.alloc (bx ha Aa Fa.len ca)).alloc (bx hb Ab Fb.len cb)) w') := Lib.hid (awake_any _ (glob_below hG HB2.out) (hT.below HB2.out h16) (by simp; omega))
  have HGa : Hid (∀ V, Below w.heap.size w V → Calls Tryz.prog 11 #[nv ha Aa Fa.len ca] V fun e w' => e = .returned (.bool false) ∧ Below V.heap.size V w') := Lib.hid fun V hV => great_no (kids_at hka hV) hca ga
  have HGb : Hid (∀ V, Below w.heap.size w V → Calls Tryz.prog 11 #[nv hb Ab Fb.len cb] V fun e w' => e = .returned (.bool false) ∧ Below V.heap.size V w') := Lib.hid fun V hV => great_no (kids_at hkb hV) hcb gb
  obtain ⟨v, hv⟩ : ∃ v, eqT ha Fa hb Fb = v := ⟨_, rfl⟩
  have HCP : Hid (∀ V, Below w.heap.size w V → Calls Tryz.prog 12 #[nv ha Aa Fa.len ca] V fun e w' => ∃ A c, e = .returned (nv ha A Fa.len c) ∧ Kids (Lt w'.heap.size) w' A Fa ∧ Below V.heap.size V w') := Lib.hid fun V hV => (copy_any ha Fa Aa ca V (kids_at hka hV) hca).mono fun e w' hq => by
    obtain ⟨A, c, he, _, hk, hb⟩ := hq
    exact ⟨A, c, he, made_kids hk, hb⟩
  have HS1 : Hid (∀ V A c, Kids (Lt V.heap.size) V A Fa → Calls Tryz.prog 21 #[nv ha A Fa.len c] V fun e w' => ∃ A c, e = .returned (nv (bare ha) A Fa.len c) ∧ Kids (Lt w'.heap.size) w' A Fa.strip ∧ Below V.heap.size V w') := Lib.hid fun V A c hk => (strip_any ha Fa A c V hk hca).mono fun e w' hq => by
    obtain ⟨A, c, he, _, hk, hb⟩ := hq
    rw [strip_len] at he
    exact ⟨A, c, he, made_kids hk, hb⟩
  have HR : Hid (∀ V, Below w.heap.size w V → Calls Tryz.prog 22 #[nv ha Aa Fa.len ca] V fun e w' => ∃ A c, e = .returned (nv (bare ha) A Fa.len c) ∧ Kids (Lt w'.heap.size) w' A Fa.strip ∧ Below V.heap.size V w') := Lib.hid fun V hV => (rstrip_any ha Fa Aa ca V (kids_at hka hV) hca).mono fun e w' hq => by
    obtain ⟨A, c, he, _, hk, hb⟩ := hq
    rw [strip_len] at he
    exact ⟨A, c, he, made_kids hk, hb⟩
  have HSB : Hid (∀ V, Below w.heap.size w V → Calls Tryz.prog 21 #[nv hb Ab Fb.len cb] V fun e w' => ∃ A c, e = .returned (nv (bare hb) A Fb.len c) ∧ Kids (Lt w'.heap.size) w' A Fb.strip ∧ Below V.heap.size V w') := Lib.hid fun V hV => (strip_any hb Fb Ab cb V (kids_at hkb hV) hcb).mono fun e w' hq => by
    obtain ⟨A, c, he, _, hk, hb⟩ := hq
    rw [strip_len] at he
    exact ⟨A, c, he, made_kids hk, hb⟩
  have HSX : Hid (∀ V A c, Kids (Lt V.heap.size) V A Fa.strip → Calls Tryz.prog 21 #[nv (bare ha) A Fa.len c] V fun e w' => ∃ A c, e = .returned (nv (bare ha) A Fa.len c) ∧ Kids (Lt w'.heap.size) w' A Fa.strip ∧ Below V.heap.size V w') := Lib.hid fun V A c hk => by
    have := strip_any (bare ha) Fa.strip A c V hk (by rw [strip_cnt]; exact hca)
    rw [strip_len] at this
    exact this.mono fun e w' hq => by
      obtain ⟨A, c, he, _, hk, hb⟩ := hq
      rw [strip_strip] at he hk
      rw [strip_len, bare_bare] at he
      exact ⟨A, c, he, made_kids hk, hb⟩
  have HSM : Hid (∀ V A A' c c', Kids (Lt V.heap.size) V A Fa.strip → Kids (Lt V.heap.size) V A' Fa.strip → Calls Tryz.prog 17 #[nv (bare ha) A Fa.len c, nv (bare ha) A' Fa.len c'] V fun e w' => e = .returned (.bool true) ∧ Below V.heap.size V w') := Lib.hid fun V A A' c c' hk hk' => by
    have := same_any (bare ha) Fa.strip (bare ha) Fa.strip A A' c c' V hk hk' (by rw [strip_cnt]; unfold maxLen; omega) (by rw [strip_cnt]; unfold maxLen; omega)
    rw [strip_len] at this
    exact this.mono fun e w' hq => ⟨by rw [hq.1, sameT_refl], hq.2⟩
  have HSN : Hid (∀ V A A' c c', Kids (Lt V.heap.size) V A Fa.strip → Kids (Lt V.heap.size) V A' Fb.strip → Calls Tryz.prog 17 #[nv (bare ha) A Fa.len c, nv (bare hb) A' Fb.len c'] V fun e w' => e = .returned (.bool v) ∧ Below V.heap.size V w') := Lib.hid fun V A A' c c' hk hk' => by
    have := same_any (bare ha) Fa.strip (bare hb) Fb.strip A A' c c' V hk hk' (by rw [strip_cnt]; unfold maxLen; omega) (by rw [strip_cnt]; unfold maxLen; omega)
    rw [strip_len, strip_len] at this
    exact this.mono fun e w' hq => ⟨by rw [hq.1, same_eq, hv], hq.2⟩
  have HE1 : Hid (∀ V, Below w.heap.size w V → Calls Tryz.prog 19 #[nv ha Aa Fa.len ca, nv hb Ab Fb.len cb] V fun e w' => e = .returned (.bool v) ∧ Below V.heap.size V w') := Lib.hid fun V hV => (sequal_any ha Fa hb Fb Aa Ab ca cb V (kids_at hka hV) (kids_at hkb hV) (by omega) (by omega)).mono fun e w' hq => ⟨by rw [hq.1, hv], hq.2⟩
  have evv : (v == v) = true := by simp
  obtain ⟨na, hna⟩ : ∃ n, Fa.len = n := ⟨_, rfl⟩
  obtain ⟨nb, hnb⟩ : ∃ n, Fb.len = n := ⟨_, rfl⟩
  rw [hna] at HB2 HZ NA NB HAW HGa HE1 HCP HS1 HR HSX HSM HSN ⊢
  rw [hnb] at HB2 HZ NA NB HAW HGb HE1 HSB HSN ⊢
  clear hG hT hka hkb hca hcb ga gb hna hnb hv
  go_enter Tryz.func6, Tryz.ntmps6
  go_wp2_with (first
    | (go_at_call 21; (with_reducible refine (HS1.out _ _ _ k4).mono ?_); rintro e w5 ⟨A2, c2, rfl, k5, hb5⟩; have B5 : Hid (Below w.heap.size w w5) := Lib.hid (B4.out.trans (hb5.mono B4.out.size)); have N5 := Lib.hid (N4.out.below hb5); have M5 := Lib.hid (M4.out.below hb5); clear hb5)
    | (go_at_call 12; (with_reducible refine (HCP.out _ B3.out).mono ?_); rintro e w4 ⟨A1, c1, rfl, k4, hb4⟩; have B4 : Hid (Below w.heap.size w w4) := Lib.hid (B3.out.trans (hb4.mono B3.out.size)); have N4 := Lib.hid (N3.out.below hb4); have M4 := Lib.hid (M3.out.below hb4); clear hb4)
    | (go_at_call 11; refine (HGb.out _ B2.out).mono ?_; rintro e w3 ⟨rfl, hb3⟩; have B3 : Hid (Below w.heap.size w w3) := Lib.hid (B2.out.trans (hb3.mono B2.out.size)); have N3 := Lib.hid (N2.out.below hb3); have M3 := Lib.hid (M2.out.below hb3); obtain ⟨p30, p31, p32, p33, p34, p35, p36, p37, p38⟩ := N3.out.cells; obtain ⟨q30, q31, q32, q33, q34, q35, q36, q37, q38⟩ := M3.out.cells; clear hb3)
    | (go_at_call 11; refine (HGa.out _ B1.out).mono ?_; rintro e w2 ⟨rfl, hb2⟩; have B2 : Hid (Below w.heap.size w w2) := Lib.hid (B1.out.trans (hb2.mono B1.out.size)); have N2 := Lib.hid (N1.out.below hb2); have M2 := Lib.hid (M1.out.below hb2); obtain ⟨p20, p21, p22, p23, p24, p25, p26, p27, p28⟩ := N2.out.cells; obtain ⟨q20, q21, q22, q23, q24, q25, q26, q27, q28⟩ := M2.out.cells; clear hb2)
    | (go_at_call 10; refine HAW.out.mono ?_; rintro e w1 ⟨rfl, hb1⟩; have B1 : Hid (Below w.heap.size w w1) := Lib.hid (HB2.out.trans (hb1.mono (by rw [← HZ.out]; omega))); have N1 := Lib.hid (NA.out.below hb1); have M1 := Lib.hid (NB.out.below hb1); obtain ⟨p0, p1, p2, p3, p4, p5, p6, p7, p8⟩ := N1.out.cells; obtain ⟨q0, q1, q2, q3, q4, q5, q6, q7, q8⟩ := M1.out.cells; clear hb1))
  have B56 : Below w5.heap.size w5 (w5.alloc (bx (bare ha) A2 na c2)) := (Below.refl _ _).alloc (Nat.le_refl _) _
  have HS := Lib.hid (LB3.mk (N5.out.below B56) (M5.out.below B56) (Nb.new w5 (bare ha) A2 na c2) B56)
  have K5 := Lib.hid k5
  have HW : Hid (∀ V, Below w5.heap.size w5 V → Below w.heap.size w V) := Lib.hid fun V hV => B5.out.trans (hV.mono B5.out.size)
  clear B56 k4 k5
  go_region_held3 (fun w' => w'.cell? ⟨w.heap.size, 0, none⟩ = some (.int .i64 ha.kind) ∧ w'.cell? ⟨w.heap.size, 1, none⟩ = some (.string ha.text) ∧ w'.cell? ⟨w.heap.size, 2, none⟩ = some (.int .i64 ha.num) ∧ w'.cell? ⟨w.heap.size, 3, none⟩ = some (.int .i64 ha.pos) ∧ w'.cell? ⟨w.heap.size, 4, none⟩ = some (.slice Aa na ca) ∧ w'.cell? ⟨w.heap.size, 5, none⟩ = some (.int .i64 ha.tk) ∧ w'.cell? ⟨w.heap.size, 6, none⟩ = some (.string ha.tn) ∧ w'.cell? ⟨w.heap.size, 7, none⟩ = some (.int .i64 ha.ref) ∧ w'.cell? ⟨w.heap.size, 8, none⟩ = some (.int .i64 ha.up) ∧ w'.cell? ⟨w.heap.size + 1, 0, none⟩ = some (.int .i64 hb.kind) ∧ w'.cell? ⟨w.heap.size + 1, 1, none⟩ = some (.string hb.text) ∧ w'.cell? ⟨w.heap.size + 1, 2, none⟩ = some (.int .i64 hb.num) ∧ w'.cell? ⟨w.heap.size + 1, 3, none⟩ = some (.int .i64 hb.pos) ∧ w'.cell? ⟨w.heap.size + 1, 4, none⟩ = some (.slice Ab nb cb) ∧ w'.cell? ⟨w.heap.size + 1, 5, none⟩ = some (.int .i64 hb.tk) ∧ w'.cell? ⟨w.heap.size + 1, 6, none⟩ = some (.string hb.tn) ∧ w'.cell? ⟨w.heap.size + 1, 7, none⟩ = some (.int .i64 hb.ref) ∧ w'.cell? ⟨w.heap.size + 1, 8, none⟩ = some (.int .i64 hb.up) ∧ w'.cell? ⟨w5.heap.size, 0, none⟩ = some (.int .i64 (bare ha).kind) ∧ w'.cell? ⟨w5.heap.size, 1, none⟩ = some (.string (bare ha).text) ∧ w'.cell? ⟨w5.heap.size, 2, none⟩ = some (.int .i64 (bare ha).num) ∧ w'.cell? ⟨w5.heap.size, 3, none⟩ = some (.int .i64 (bare ha).pos) ∧ w'.cell? ⟨w5.heap.size, 4, none⟩ = some (.slice A2 na c2) ∧ w'.cell? ⟨w5.heap.size, 5, none⟩ = some (.int .i64 (bare ha).tk) ∧ w'.cell? ⟨w5.heap.size, 6, none⟩ = some (.string (bare ha).tn) ∧ w'.cell? ⟨w5.heap.size, 7, none⟩ = some (.int .i64 (bare ha).ref) ∧ w'.cell? ⟨w5.heap.size, 8, none⟩ = some (.int .i64 (bare ha).up) ∧ Below w5.heap.size w5 w')
    (first
      | exact HS.out.start
      | exact LB3.keep (by assumption) hbb)
    (first
      | (go_at_call 22; (with_reducible refine (HR.out _ (HW.out _ ?_)).mono ?_); (go_split_ands; assumption); rintro e w' ⟨A, c, rfl, hks, hbb⟩)
      | (go_at_call 17; (with_reducible refine (HSM.out _ _ _ _ _ (kids_at K5.out ?_) hks).mono ?_); (go_split_ands; assumption); rintro e w' ⟨rfl, hbb⟩)
      | (go_at_call 21; (with_reducible refine (HSX.out _ _ _ (kids_at K5.out ?_)).mono ?_); (go_split_ands; assumption); rintro e w' ⟨A', c', rfl, hks2, hbb⟩)
      | (go_at_call 17; (with_reducible refine (HSM.out _ _ _ _ _ hks2 (kids_at K5.out ?_)).mono ?_); (go_split_ands; assumption); rintro e w' ⟨rfl, hbb⟩))
  all_goals
    have HS2 : Hid (LB3 w.heap.size (w.heap.size + 1) w5.heap.size ha Aa na ca hb Ab nb cb (bare ha) A2 na c2 w5 w') := Lib.hid (by assumption)
    go_wp2
    go_region_held3 (fun w' => w'.cell? ⟨w.heap.size, 0, none⟩ = some (.int .i64 ha.kind) ∧ w'.cell? ⟨w.heap.size, 1, none⟩ = some (.string ha.text) ∧ w'.cell? ⟨w.heap.size, 2, none⟩ = some (.int .i64 ha.num) ∧ w'.cell? ⟨w.heap.size, 3, none⟩ = some (.int .i64 ha.pos) ∧ w'.cell? ⟨w.heap.size, 4, none⟩ = some (.slice Aa na ca) ∧ w'.cell? ⟨w.heap.size, 5, none⟩ = some (.int .i64 ha.tk) ∧ w'.cell? ⟨w.heap.size, 6, none⟩ = some (.string ha.tn) ∧ w'.cell? ⟨w.heap.size, 7, none⟩ = some (.int .i64 ha.ref) ∧ w'.cell? ⟨w.heap.size, 8, none⟩ = some (.int .i64 ha.up) ∧ w'.cell? ⟨w.heap.size + 1, 0, none⟩ = some (.int .i64 hb.kind) ∧ w'.cell? ⟨w.heap.size + 1, 1, none⟩ = some (.string hb.text) ∧ w'.cell? ⟨w.heap.size + 1, 2, none⟩ = some (.int .i64 hb.num) ∧ w'.cell? ⟨w.heap.size + 1, 3, none⟩ = some (.int .i64 hb.pos) ∧ w'.cell? ⟨w.heap.size + 1, 4, none⟩ = some (.slice Ab nb cb) ∧ w'.cell? ⟨w.heap.size + 1, 5, none⟩ = some (.int .i64 hb.tk) ∧ w'.cell? ⟨w.heap.size + 1, 6, none⟩ = some (.string hb.tn) ∧ w'.cell? ⟨w.heap.size + 1, 7, none⟩ = some (.int .i64 hb.ref) ∧ w'.cell? ⟨w.heap.size + 1, 8, none⟩ = some (.int .i64 hb.up) ∧ w'.cell? ⟨w5.heap.size, 0, none⟩ = some (.int .i64 (bare ha).kind) ∧ w'.cell? ⟨w5.heap.size, 1, none⟩ = some (.string (bare ha).text) ∧ w'.cell? ⟨w5.heap.size, 2, none⟩ = some (.int .i64 (bare ha).num) ∧ w'.cell? ⟨w5.heap.size, 3, none⟩ = some (.int .i64 (bare ha).pos) ∧ w'.cell? ⟨w5.heap.size, 4, none⟩ = some (.slice A2 na c2) ∧ w'.cell? ⟨w5.heap.size, 5, none⟩ = some (.int .i64 (bare ha).tk) ∧ w'.cell? ⟨w5.heap.size, 6, none⟩ = some (.string (bare ha).tn) ∧ w'.cell? ⟨w5.heap.size, 7, none⟩ = some (.int .i64 (bare ha).ref) ∧ w'.cell? ⟨w5.heap.size, 8, none⟩ = some (.int .i64 (bare ha).up) ∧ Below w5.heap.size w5 w')
      (first
        | exact HS2.out.start
        | exact LB3.keep (by assumption) hbb)
      (first
        | (go_at_call 19; (with_reducible refine (HE1.out _ (HW.out _ ?_)).mono ?_); (go_split_ands; assumption); rintro e w' ⟨rfl, hbb⟩)
        | (go_at_call 21; (with_reducible refine (HSB.out _ (HW.out _ ?_)).mono ?_); (go_split_ands; assumption); rintro e w' ⟨A, c, rfl, hks3, hbb⟩; have k3 : Hid (∀ V, Below w'.heap.size w' V → Kids (Lt V.heap.size) V A Fb.strip) := Lib.hid (fun V hV => kids_at hks3 hV))
        | (go_at_call 17; (with_reducible refine (HSN.out _ _ _ _ _ (kids_at K5.out ?_) hks3).mono ?_); (go_split_ands; assumption); rintro e w' ⟨rfl, hbb⟩))
    all_goals
      have HBE : Hid (Below w5.heap.size w5 w') := Lib.hid (by go_split_ands; assumption)
      go_wp2
      go_ret
      exact ⟨rfl, HW.out _ HBE.out⟩
theorem strip_law (ha hb : Hd) (Fa Fb : Fo) (Aa Ab : Option Addr) (ca cb : Nat) (w : World) (hG : Glob w) (hT : Tb w) (h16 : 5 ≤ w.heap.size) (hka : Kids (Lt w.heap.size) w Aa Fa) (hkb : Kids (Lt w.heap.size) w Ab Fb) (hca : Fa.cnt + 1 ≤ 1048576) (hcb : Fb.cnt + 1 ≤ 1048576) : Calls Tryz.prog 6 #[nv ha Aa Fa.len ca, nv hb Ab Fb.len cb] w fun e w' => e = .returned (.bool true) ∧ Below w.heap.size w w' := by
  by_cases ga : Fa.cnt + 1 ≤ 300
  · by_cases gb : Fb.cnt + 1 ≤ 300
    · exact strip_main ha hb Fa Fb Aa Ab ca cb w hG hT h16 hka hkb hca hcb ga gb
    · exact strip_gb ha hb Fa Fb Aa Ab ca cb w hG hT h16 hka hkb hca hcb ga gb
  · exact strip_ga ha hb Fa Fb Aa Ab ca cb w hG hT h16 hka hkb hca hcb ga
end Go.Proofs.YticbcnhbpbaocaaGreatDoor
