/-
  The walk of the law SyntaxText.
-/
import Derived.Test.YticbcnhbpbaocaaGreatDoorLA
import Derived.Test.YticbcnhbpbaocaaGreatDoorCE
import Derived.Test.YticbcnhbpbaocaaGreatDoorRL
import Derived.Test.YticbcnhbpbaocaaGreatDoorNM
import Derived.Test.YticbcnhbpbaocaaGreatDoorZJ
import Derived.Deep.RegionHeld3
set_option linter.all false
namespace Go.Proofs.YticbcnhbpbaocaaGreatDoor
open Go.RowKit T T.Fo
set_option linter.all false
theorem nm_nmv3 : (nm : ByteArray → Bool) = nmv := funext fun s => M.nmS_eq _
set_option maxRecDepth 100000 in
set_option maxHeartbeats 8000000 in
theorem text_ca (ha hb : Hd) (Fa Fb : Fo) (Aa Ab : Option Addr) (ca cb : Nat) (w : World) (hG : Glob w) (hT : Tb w) (h16 : 5 ≤ w.heap.size) (hla : Fa.len ≤ ca) (hlb : Fb.len ≤ cb) (hka : Kids (Lt w.heap.size) w Aa Fa) (hkb : Kids (Lt w.heap.size) w Ab Fb) (hna : numIx ha) (hnb : numIx hb) (hFa : Fa.AllH numIx) (hFb : Fb.AllH numIx) (hca : Fa.cnt + 1 ≤ 1048576) (hcb : Fb.cnt + 1 ≤ 1048576) (ga : ¬ Fa.cnt + 1 ≤ 150) : Calls Tryz.prog 8 #[nv ha Aa Fa.len ca, nv hb Ab Fb.len cb] w fun e w' => e = .returned (.bool true) ∧ Below w.heap.size w w' := by
  have HB2 : Hid (Below w.heap.size w ((w.alloc (bx ha Aa Fa.len ca)).alloc (bx hb Ab Fb.len cb))) := Lib.hid (below2 w _ _)
  have HZ : Hid (w.heap.size + 2 = ((w.alloc (bx ha Aa Fa.len ca)).alloc (bx hb Ab Fb.len cb)).heap.size) := Lib.hid (by simp)
  have NA : Hid (Nb ((w.alloc (bx ha Aa Fa.len ca)).alloc (bx hb Ab Fb.len cb)) w.heap.size ha Aa Fa.len ca) := Lib.hid ((Nb.new w ha Aa Fa.len ca).below ((Below.refl _ _).alloc (Nat.le_refl _) _))
  have NB : Hid (Nb ((w.alloc (bx ha Aa Fa.len ca)).alloc (bx hb Ab Fb.len cb)) (w.heap.size + 1) hb Ab Fb.len cb) := by
    have := Nb.new (w.alloc (bx ha Aa Fa.len ca)) hb Ab Fb.len cb
    rw [World.size_alloc] at this
    exact Lib.hid this
  have HAW : Hid (Calls Tryz.prog 10 #[] ((w.alloc (bx ha Aa Fa.len ca)).alloc (bx hb Ab Fb.len cb)) fun e w' => e = .returned (.bool true) ∧ Below ((w.alloc (bx ha Aa Fa.len ca)).alloc (bx hb Ab Fb.len cb)).heap.size ((w.alloc (bx ha Aa Fa.len ca)).alloc (bx hb Ab Fb.len cb)) w') := Lib.hid (awake_any _ (glob_below hG HB2.out) (hT.below HB2.out h16) (by rw [← HZ.out]; omega))
  obtain ⟨ma, hma⟩ : ∃ m, Fa.cnt + 1 = m := ⟨_, rfl⟩
  obtain ⟨mb, hmb⟩ : ∃ m, Fb.cnt + 1 = m := ⟨_, rfl⟩
  have HCa : Hid (∀ V, Below w.heap.size w V → Calls Tryz.prog 16 #[nv ha Aa Fa.len ca] V fun e w' => e = .returned (.int .i64 (ma : Int)) ∧ Below V.heap.size V w') := Lib.hid fun V hV => count_any ha Fa Aa ca V ma (kids_at hka hV) hma (by unfold maxLen; omega)
  have ga1 : (150 : Int) < (ma : Int) := by omega
  clear ga
  obtain ⟨na, hna'⟩ : ∃ n, Fa.len = n := ⟨_, rfl⟩
  obtain ⟨nb, hnb'⟩ : ∃ n, Fb.len = n := ⟨_, rfl⟩
  rw [hna'] at HB2 HZ NA NB HAW HCa ⊢
  rw [hnb'] at HB2 HZ NA NB HAW  ⊢
  clear hG hT h16 hla hlb hka hkb hna hnb hFa hFb hca hcb hma hmb hna' hnb'
  go_enter Tryz.func8, Tryz.ntmps8
  go_wp2_with (first
    | (go_at_call 16; refine (HCa.out _ B1.out).mono ?_; rintro e w2 ⟨rfl, hb2⟩; have B2 : Hid (Below w.heap.size w w2) := Lib.hid (B1.out.trans (hb2.mono B1.out.size)); have N2 := Lib.hid (N1.out.below hb2); have M2 := Lib.hid (M1.out.below hb2); obtain ⟨p20, p21, p22, p23, p24, p25, p26, p27, p28⟩ := N2.out.cells; obtain ⟨q20, q21, q22, q23, q24, q25, q26, q27, q28⟩ := M2.out.cells; clear hb2)
    | (go_at_call 10; refine HAW.out.mono ?_; rintro e w1 ⟨rfl, hb1⟩; have B1 : Hid (Below w.heap.size w w1) := Lib.hid (HB2.out.trans (hb1.mono (by rw [← HZ.out]; omega))); have N1 := Lib.hid (NA.out.below hb1); have M1 := Lib.hid (NB.out.below hb1); obtain ⟨p0, p1, p2, p3, p4, p5, p6, p7, p8⟩ := N1.out.cells; obtain ⟨q0, q1, q2, q3, q4, q5, q6, q7, q8⟩ := M1.out.cells; clear hb1))
  go_ret
  exact ⟨rfl, B2.out⟩
set_option maxRecDepth 100000 in
set_option maxHeartbeats 8000000 in
theorem text_cb (ha hb : Hd) (Fa Fb : Fo) (Aa Ab : Option Addr) (ca cb : Nat) (w : World) (hG : Glob w) (hT : Tb w) (h16 : 5 ≤ w.heap.size) (hla : Fa.len ≤ ca) (hlb : Fb.len ≤ cb) (hka : Kids (Lt w.heap.size) w Aa Fa) (hkb : Kids (Lt w.heap.size) w Ab Fb) (hna : numIx ha) (hnb : numIx hb) (hFa : Fa.AllH numIx) (hFb : Fb.AllH numIx) (hca : Fa.cnt + 1 ≤ 1048576) (hcb : Fb.cnt + 1 ≤ 1048576) (ga : Fa.cnt + 1 ≤ 150) (gb : ¬ Fb.cnt + 1 ≤ 150) : Calls Tryz.prog 8 #[nv ha Aa Fa.len ca, nv hb Ab Fb.len cb] w fun e w' => e = .returned (.bool true) ∧ Below w.heap.size w w' := by
  have HB2 : Hid (Below w.heap.size w ((w.alloc (bx ha Aa Fa.len ca)).alloc (bx hb Ab Fb.len cb))) := Lib.hid (below2 w _ _)
  have HZ : Hid (w.heap.size + 2 = ((w.alloc (bx ha Aa Fa.len ca)).alloc (bx hb Ab Fb.len cb)).heap.size) := Lib.hid (by simp)
  have NA : Hid (Nb ((w.alloc (bx ha Aa Fa.len ca)).alloc (bx hb Ab Fb.len cb)) w.heap.size ha Aa Fa.len ca) := Lib.hid ((Nb.new w ha Aa Fa.len ca).below ((Below.refl _ _).alloc (Nat.le_refl _) _))
  have NB : Hid (Nb ((w.alloc (bx ha Aa Fa.len ca)).alloc (bx hb Ab Fb.len cb)) (w.heap.size + 1) hb Ab Fb.len cb) := by
    have := Nb.new (w.alloc (bx ha Aa Fa.len ca)) hb Ab Fb.len cb
    rw [World.size_alloc] at this
    exact Lib.hid this
  have HAW : Hid (Calls Tryz.prog 10 #[] ((w.alloc (bx ha Aa Fa.len ca)).alloc (bx hb Ab Fb.len cb)) fun e w' => e = .returned (.bool true) ∧ Below ((w.alloc (bx ha Aa Fa.len ca)).alloc (bx hb Ab Fb.len cb)).heap.size ((w.alloc (bx ha Aa Fa.len ca)).alloc (bx hb Ab Fb.len cb)) w') := Lib.hid (awake_any _ (glob_below hG HB2.out) (hT.below HB2.out h16) (by rw [← HZ.out]; omega))
  obtain ⟨ma, hma⟩ : ∃ m, Fa.cnt + 1 = m := ⟨_, rfl⟩
  obtain ⟨mb, hmb⟩ : ∃ m, Fb.cnt + 1 = m := ⟨_, rfl⟩
  have HCa : Hid (∀ V, Below w.heap.size w V → Calls Tryz.prog 16 #[nv ha Aa Fa.len ca] V fun e w' => e = .returned (.int .i64 (ma : Int)) ∧ Below V.heap.size V w') := Lib.hid fun V hV => count_any ha Fa Aa ca V ma (kids_at hka hV) hma (by unfold maxLen; omega)
  have HCb : Hid (∀ V, Below w.heap.size w V → Calls Tryz.prog 16 #[nv hb Ab Fb.len cb] V fun e w' => e = .returned (.int .i64 (mb : Int)) ∧ Below V.heap.size V w') := Lib.hid fun V hV => count_any hb Fb Ab cb V mb (kids_at hkb hV) hmb (by unfold maxLen; omega)
  have ga1 : decide ((150 : Int) < (ma : Int)) = false := by simp; omega
  have gb1 : (150 : Int) < (mb : Int) := by omega
  clear ga gb
  obtain ⟨na, hna'⟩ : ∃ n, Fa.len = n := ⟨_, rfl⟩
  obtain ⟨nb, hnb'⟩ : ∃ n, Fb.len = n := ⟨_, rfl⟩
  rw [hna'] at HB2 HZ NA NB HAW HCa ⊢
  rw [hnb'] at HB2 HZ NA NB HAW HCb ⊢
  clear hG hT h16 hla hlb hka hkb hna hnb hFa hFb hca hcb hma hmb hna' hnb'
  go_enter Tryz.func8, Tryz.ntmps8
  go_wp2_with (first
    | (go_at_call 16; refine (HCb.out _ B2.out).mono ?_; rintro e w3 ⟨rfl, hb3⟩; have B3 : Hid (Below w.heap.size w w3) := Lib.hid (B2.out.trans (hb3.mono B2.out.size)); have N3 := Lib.hid (N2.out.below hb3); have M3 := Lib.hid (M2.out.below hb3); obtain ⟨p30, p31, p32, p33, p34, p35, p36, p37, p38⟩ := N3.out.cells; obtain ⟨q30, q31, q32, q33, q34, q35, q36, q37, q38⟩ := M3.out.cells; clear hb3)
    | (go_at_call 16; refine (HCa.out _ B1.out).mono ?_; rintro e w2 ⟨rfl, hb2⟩; have B2 : Hid (Below w.heap.size w w2) := Lib.hid (B1.out.trans (hb2.mono B1.out.size)); have N2 := Lib.hid (N1.out.below hb2); have M2 := Lib.hid (M1.out.below hb2); obtain ⟨p20, p21, p22, p23, p24, p25, p26, p27, p28⟩ := N2.out.cells; obtain ⟨q20, q21, q22, q23, q24, q25, q26, q27, q28⟩ := M2.out.cells; clear hb2)
    | (go_at_call 10; refine HAW.out.mono ?_; rintro e w1 ⟨rfl, hb1⟩; have B1 : Hid (Below w.heap.size w w1) := Lib.hid (HB2.out.trans (hb1.mono (by rw [← HZ.out]; omega))); have N1 := Lib.hid (NA.out.below hb1); have M1 := Lib.hid (NB.out.below hb1); obtain ⟨p0, p1, p2, p3, p4, p5, p6, p7, p8⟩ := N1.out.cells; obtain ⟨q0, q1, q2, q3, q4, q5, q6, q7, q8⟩ := M1.out.cells; clear hb1))
  go_ret
  exact ⟨rfl, B3.out⟩
set_option maxRecDepth 100000 in
set_option maxHeartbeats 8000000 in
theorem text_va (ha hb : Hd) (Fa Fb : Fo) (Aa Ab : Option Addr) (ca cb : Nat) (w : World) (hG : Glob w) (hT : Tb w) (h16 : 5 ≤ w.heap.size) (hla : Fa.len ≤ ca) (hlb : Fb.len ≤ cb) (hka : Kids (Lt w.heap.size) w Aa Fa) (hkb : Kids (Lt w.heap.size) w Ab Fb) (hna : numIx ha) (hnb : numIx hb) (hFa : Fa.AllH numIx) (hFb : Fb.AllH numIx) (hca : Fa.cnt + 1 ≤ 1048576) (hcb : Fb.cnt + 1 ≤ 1048576) (ga : Fa.cnt + 1 ≤ 150) (gb : Fb.cnt + 1 ≤ 150) (hva : validT nm ha Fa = false) : Calls Tryz.prog 8 #[nv ha Aa Fa.len ca, nv hb Ab Fb.len cb] w fun e w' => e = .returned (.bool true) ∧ Below w.heap.size w w' := by
  have HB2 : Hid (Below w.heap.size w ((w.alloc (bx ha Aa Fa.len ca)).alloc (bx hb Ab Fb.len cb))) := Lib.hid (below2 w _ _)
  have HZ : Hid (w.heap.size + 2 = ((w.alloc (bx ha Aa Fa.len ca)).alloc (bx hb Ab Fb.len cb)).heap.size) := Lib.hid (by simp)
  have NA : Hid (Nb ((w.alloc (bx ha Aa Fa.len ca)).alloc (bx hb Ab Fb.len cb)) w.heap.size ha Aa Fa.len ca) := Lib.hid ((Nb.new w ha Aa Fa.len ca).below ((Below.refl _ _).alloc (Nat.le_refl _) _))
  have NB : Hid (Nb ((w.alloc (bx ha Aa Fa.len ca)).alloc (bx hb Ab Fb.len cb)) (w.heap.size + 1) hb Ab Fb.len cb) := by
    have := Nb.new (w.alloc (bx ha Aa Fa.len ca)) hb Ab Fb.len cb
    rw [World.size_alloc] at this
    exact Lib.hid this
  have HAW : Hid (Calls Tryz.prog 10 #[] ((w.alloc (bx ha Aa Fa.len ca)).alloc (bx hb Ab Fb.len cb)) fun e w' => e = .returned (.bool true) ∧ Below ((w.alloc (bx ha Aa Fa.len ca)).alloc (bx hb Ab Fb.len cb)).heap.size ((w.alloc (bx ha Aa Fa.len ca)).alloc (bx hb Ab Fb.len cb)) w') := Lib.hid (awake_any _ (glob_below hG HB2.out) (hT.below HB2.out h16) (by rw [← HZ.out]; omega))
  obtain ⟨ma, hma⟩ : ∃ m, Fa.cnt + 1 = m := ⟨_, rfl⟩
  obtain ⟨mb, hmb⟩ : ∃ m, Fb.cnt + 1 = m := ⟨_, rfl⟩
  have HCa : Hid (∀ V, Below w.heap.size w V → Calls Tryz.prog 16 #[nv ha Aa Fa.len ca] V fun e w' => e = .returned (.int .i64 (ma : Int)) ∧ Below V.heap.size V w') := Lib.hid fun V hV => count_any ha Fa Aa ca V ma (kids_at hka hV) hma (by unfold maxLen; omega)
  have HCb : Hid (∀ V, Below w.heap.size w V → Calls Tryz.prog 16 #[nv hb Ab Fb.len cb] V fun e w' => e = .returned (.int .i64 (mb : Int)) ∧ Below V.heap.size V w') := Lib.hid fun V hV => count_any hb Fb Ab cb V mb (kids_at hkb hV) hmb (by unfold maxLen; omega)
  have ga1 : decide ((150 : Int) < (ma : Int)) = false := by simp; omega
  have gb1 : decide ((150 : Int) < (mb : Int)) = false := by simp; omega
  have HVa : Hid (∀ V, Below w.heap.size w V → Calls Tryz.prog 14 #[nv ha Aa Fa.len ca] V fun e w' => e = .returned (.bool false) ∧ Below V.heap.size V w') := Lib.hid fun V hV => by
    have := rvalid_any ha Fa Aa ca V ⟨hna, hFa, by omega⟩ (kids_at hka hV)
    rw [← nm_nmv3, hva] at this
    exact this
  clear ga gb hva
  obtain ⟨na, hna'⟩ : ∃ n, Fa.len = n := ⟨_, rfl⟩
  obtain ⟨nb, hnb'⟩ : ∃ n, Fb.len = n := ⟨_, rfl⟩
  rw [hna'] at HB2 HZ NA NB HAW HCa HVa ⊢
  rw [hnb'] at HB2 HZ NA NB HAW HCb ⊢
  clear hG hT h16 hla hlb hka hkb hna hnb hFa hFb hca hcb hma hmb hna' hnb'
  go_enter Tryz.func8, Tryz.ntmps8
  go_wp2_with (first
    | (go_at_call 14; refine (HVa.out _ B3.out).mono ?_; rintro e w4 ⟨rfl, hb4⟩; have B4 : Hid (Below w.heap.size w w4) := Lib.hid (B3.out.trans (hb4.mono B3.out.size)); have N4 := Lib.hid (N3.out.below hb4); have M4 := Lib.hid (M3.out.below hb4); obtain ⟨p40, p41, p42, p43, p44, p45, p46, p47, p48⟩ := N4.out.cells; obtain ⟨q40, q41, q42, q43, q44, q45, q46, q47, q48⟩ := M4.out.cells; clear hb4)
    | (go_at_call 16; refine (HCb.out _ B2.out).mono ?_; rintro e w3 ⟨rfl, hb3⟩; have B3 : Hid (Below w.heap.size w w3) := Lib.hid (B2.out.trans (hb3.mono B2.out.size)); have N3 := Lib.hid (N2.out.below hb3); have M3 := Lib.hid (M2.out.below hb3); obtain ⟨p30, p31, p32, p33, p34, p35, p36, p37, p38⟩ := N3.out.cells; obtain ⟨q30, q31, q32, q33, q34, q35, q36, q37, q38⟩ := M3.out.cells; clear hb3)
    | (go_at_call 16; refine (HCa.out _ B1.out).mono ?_; rintro e w2 ⟨rfl, hb2⟩; have B2 : Hid (Below w.heap.size w w2) := Lib.hid (B1.out.trans (hb2.mono B1.out.size)); have N2 := Lib.hid (N1.out.below hb2); have M2 := Lib.hid (M1.out.below hb2); obtain ⟨p20, p21, p22, p23, p24, p25, p26, p27, p28⟩ := N2.out.cells; obtain ⟨q20, q21, q22, q23, q24, q25, q26, q27, q28⟩ := M2.out.cells; clear hb2)
    | (go_at_call 10; refine HAW.out.mono ?_; rintro e w1 ⟨rfl, hb1⟩; have B1 : Hid (Below w.heap.size w w1) := Lib.hid (HB2.out.trans (hb1.mono (by rw [← HZ.out]; omega))); have N1 := Lib.hid (NA.out.below hb1); have M1 := Lib.hid (NB.out.below hb1); obtain ⟨p0, p1, p2, p3, p4, p5, p6, p7, p8⟩ := N1.out.cells; obtain ⟨q0, q1, q2, q3, q4, q5, q6, q7, q8⟩ := M1.out.cells; clear hb1))
  go_ret
  exact ⟨rfl, B4.out⟩
set_option maxRecDepth 100000 in
set_option maxHeartbeats 8000000 in
theorem text_vb (ha hb : Hd) (Fa Fb : Fo) (Aa Ab : Option Addr) (ca cb : Nat) (w : World) (hG : Glob w) (hT : Tb w) (h16 : 5 ≤ w.heap.size) (hla : Fa.len ≤ ca) (hlb : Fb.len ≤ cb) (hka : Kids (Lt w.heap.size) w Aa Fa) (hkb : Kids (Lt w.heap.size) w Ab Fb) (hna : numIx ha) (hnb : numIx hb) (hFa : Fa.AllH numIx) (hFb : Fb.AllH numIx) (hca : Fa.cnt + 1 ≤ 1048576) (hcb : Fb.cnt + 1 ≤ 1048576) (ga : Fa.cnt + 1 ≤ 150) (gb : Fb.cnt + 1 ≤ 150) (hva : validT nm ha Fa = true) (hvb : validT nm hb Fb = false) : Calls Tryz.prog 8 #[nv ha Aa Fa.len ca, nv hb Ab Fb.len cb] w fun e w' => e = .returned (.bool true) ∧ Below w.heap.size w w' := by
  have HB2 : Hid (Below w.heap.size w ((w.alloc (bx ha Aa Fa.len ca)).alloc (bx hb Ab Fb.len cb))) := Lib.hid (below2 w _ _)
  have HZ : Hid (w.heap.size + 2 = ((w.alloc (bx ha Aa Fa.len ca)).alloc (bx hb Ab Fb.len cb)).heap.size) := Lib.hid (by simp)
  have NA : Hid (Nb ((w.alloc (bx ha Aa Fa.len ca)).alloc (bx hb Ab Fb.len cb)) w.heap.size ha Aa Fa.len ca) := Lib.hid ((Nb.new w ha Aa Fa.len ca).below ((Below.refl _ _).alloc (Nat.le_refl _) _))
  have NB : Hid (Nb ((w.alloc (bx ha Aa Fa.len ca)).alloc (bx hb Ab Fb.len cb)) (w.heap.size + 1) hb Ab Fb.len cb) := by
    have := Nb.new (w.alloc (bx ha Aa Fa.len ca)) hb Ab Fb.len cb
    rw [World.size_alloc] at this
    exact Lib.hid this
  have HAW : Hid (Calls Tryz.prog 10 #[] ((w.alloc (bx ha Aa Fa.len ca)).alloc (bx hb Ab Fb.len cb)) fun e w' => e = .returned (.bool true) ∧ Below ((w.alloc (bx ha Aa Fa.len ca)).alloc (bx hb Ab Fb.len cb)).heap.size ((w.alloc (bx ha Aa Fa.len ca)).alloc (bx hb Ab Fb.len cb)) w') := Lib.hid (awake_any _ (glob_below hG HB2.out) (hT.below HB2.out h16) (by rw [← HZ.out]; omega))
  obtain ⟨ma, hma⟩ : ∃ m, Fa.cnt + 1 = m := ⟨_, rfl⟩
  obtain ⟨mb, hmb⟩ : ∃ m, Fb.cnt + 1 = m := ⟨_, rfl⟩
  have HCa : Hid (∀ V, Below w.heap.size w V → Calls Tryz.prog 16 #[nv ha Aa Fa.len ca] V fun e w' => e = .returned (.int .i64 (ma : Int)) ∧ Below V.heap.size V w') := Lib.hid fun V hV => count_any ha Fa Aa ca V ma (kids_at hka hV) hma (by unfold maxLen; omega)
  have HCb : Hid (∀ V, Below w.heap.size w V → Calls Tryz.prog 16 #[nv hb Ab Fb.len cb] V fun e w' => e = .returned (.int .i64 (mb : Int)) ∧ Below V.heap.size V w') := Lib.hid fun V hV => count_any hb Fb Ab cb V mb (kids_at hkb hV) hmb (by unfold maxLen; omega)
  have ga1 : decide ((150 : Int) < (ma : Int)) = false := by simp; omega
  have gb1 : decide ((150 : Int) < (mb : Int)) = false := by simp; omega
  have HVa : Hid (∀ V, Below w.heap.size w V → Calls Tryz.prog 14 #[nv ha Aa Fa.len ca] V fun e w' => e = .returned (.bool true) ∧ Below V.heap.size V w') := Lib.hid fun V hV => by
    have := rvalid_any ha Fa Aa ca V ⟨hna, hFa, by omega⟩ (kids_at hka hV)
    rw [← nm_nmv3, hva] at this
    exact this
  have HVb : Hid (∀ V, Below w.heap.size w V → Calls Tryz.prog 14 #[nv hb Ab Fb.len cb] V fun e w' => e = .returned (.bool false) ∧ Below V.heap.size V w') := Lib.hid fun V hV => by
    have := rvalid_any hb Fb Ab cb V ⟨hnb, hFb, by omega⟩ (kids_at hkb hV)
    rw [← nm_nmv3, hvb] at this
    exact this
  clear ga gb hva hvb
  obtain ⟨na, hna'⟩ : ∃ n, Fa.len = n := ⟨_, rfl⟩
  obtain ⟨nb, hnb'⟩ : ∃ n, Fb.len = n := ⟨_, rfl⟩
  rw [hna'] at HB2 HZ NA NB HAW HCa HVa ⊢
  rw [hnb'] at HB2 HZ NA NB HAW HCb HVb ⊢
  clear hG hT h16 hla hlb hka hkb hna hnb hFa hFb hca hcb hma hmb hna' hnb'
  go_enter Tryz.func8, Tryz.ntmps8
  go_wp2_with (first
    | (go_at_call 14; refine (HVb.out _ B4.out).mono ?_; rintro e w5 ⟨rfl, hb5⟩; have B5 : Hid (Below w.heap.size w w5) := Lib.hid (B4.out.trans (hb5.mono B4.out.size)); have N5 := Lib.hid (N4.out.below hb5); have M5 := Lib.hid (M4.out.below hb5); obtain ⟨p50, p51, p52, p53, p54, p55, p56, p57, p58⟩ := N5.out.cells; obtain ⟨q50, q51, q52, q53, q54, q55, q56, q57, q58⟩ := M5.out.cells; clear hb5)
    | (go_at_call 14; refine (HVa.out _ B3.out).mono ?_; rintro e w4 ⟨rfl, hb4⟩; have B4 : Hid (Below w.heap.size w w4) := Lib.hid (B3.out.trans (hb4.mono B3.out.size)); have N4 := Lib.hid (N3.out.below hb4); have M4 := Lib.hid (M3.out.below hb4); obtain ⟨p40, p41, p42, p43, p44, p45, p46, p47, p48⟩ := N4.out.cells; obtain ⟨q40, q41, q42, q43, q44, q45, q46, q47, q48⟩ := M4.out.cells; clear hb4)
    | (go_at_call 16; refine (HCb.out _ B2.out).mono ?_; rintro e w3 ⟨rfl, hb3⟩; have B3 : Hid (Below w.heap.size w w3) := Lib.hid (B2.out.trans (hb3.mono B2.out.size)); have N3 := Lib.hid (N2.out.below hb3); have M3 := Lib.hid (M2.out.below hb3); obtain ⟨p30, p31, p32, p33, p34, p35, p36, p37, p38⟩ := N3.out.cells; obtain ⟨q30, q31, q32, q33, q34, q35, q36, q37, q38⟩ := M3.out.cells; clear hb3)
    | (go_at_call 16; refine (HCa.out _ B1.out).mono ?_; rintro e w2 ⟨rfl, hb2⟩; have B2 : Hid (Below w.heap.size w w2) := Lib.hid (B1.out.trans (hb2.mono B1.out.size)); have N2 := Lib.hid (N1.out.below hb2); have M2 := Lib.hid (M1.out.below hb2); obtain ⟨p20, p21, p22, p23, p24, p25, p26, p27, p28⟩ := N2.out.cells; obtain ⟨q20, q21, q22, q23, q24, q25, q26, q27, q28⟩ := M2.out.cells; clear hb2)
    | (go_at_call 10; refine HAW.out.mono ?_; rintro e w1 ⟨rfl, hb1⟩; have B1 : Hid (Below w.heap.size w w1) := Lib.hid (HB2.out.trans (hb1.mono (by rw [← HZ.out]; omega))); have N1 := Lib.hid (NA.out.below hb1); have M1 := Lib.hid (NB.out.below hb1); obtain ⟨p0, p1, p2, p3, p4, p5, p6, p7, p8⟩ := N1.out.cells; obtain ⟨q0, q1, q2, q3, q4, q5, q6, q7, q8⟩ := M1.out.cells; clear hb1))
  go_ret
  exact ⟨rfl, B5.out⟩
theorem rscanV (s : ByteArray) (w : World) (hm : s.size ≤ maxLen) : Calls Tryz.prog 25 #[.string s] w (Reads w (M.scanL s.data.toList) (M.scanA s.data.toList) (M.scanE s.data.toList)) := V.rscan_any s w hm
theorem M_size (s : ByteArray) : s.size = s.data.toList.length := by simp
set_option maxRecDepth 100000 in
set_option maxHeartbeats 8000000 in
theorem text_main (ha hb : Hd) (Fa Fb : Fo) (Aa Ab : Option Addr) (ca cb : Nat) (w : World) (hG : Glob w) (hT : Tb w) (h16 : 5 ≤ w.heap.size) (hla : Fa.len ≤ ca) (hlb : Fb.len ≤ cb) (hka : Kids (Lt w.heap.size) w Aa Fa) (hkb : Kids (Lt w.heap.size) w Ab Fb) (hna : numIx ha) (hnb : numIx hb) (hFa : Fa.AllH numIx) (hFb : Fb.AllH numIx) (hca : Fa.cnt + 1 ≤ 1048576) (hcb : Fb.cnt + 1 ≤ 1048576) (ga : Fa.cnt + 1 ≤ 150) (gb : Fb.cnt + 1 ≤ 150) (hva : validT nm ha Fa = true) (hvb : validT nm hb Fb = true) : Calls Tryz.prog 8 #[nv ha Aa Fa.len ca, nv hb Ab Fb.len cb] w fun e w' => e = .returned (.bool true) ∧ Below w.heap.size w w' := by
  have HB2 : Hid (Below w.heap.size w ((w.alloc (bx ha Aa Fa.len ca)).alloc (bx hb Ab Fb.len cb))) := Lib.hid (below2 w _ _)
  have HZ : Hid (w.heap.size + 2 = ((w.alloc (bx ha Aa Fa.len ca)).alloc (bx hb Ab Fb.len cb)).heap.size) := Lib.hid (by simp)
  have NA : Hid (Nb ((w.alloc (bx ha Aa Fa.len ca)).alloc (bx hb Ab Fb.len cb)) w.heap.size ha Aa Fa.len ca) := Lib.hid ((Nb.new w ha Aa Fa.len ca).below ((Below.refl _ _).alloc (Nat.le_refl _) _))
  have NB : Hid (Nb ((w.alloc (bx ha Aa Fa.len ca)).alloc (bx hb Ab Fb.len cb)) (w.heap.size + 1) hb Ab Fb.len cb) := by
    have := Nb.new (w.alloc (bx ha Aa Fa.len ca)) hb Ab Fb.len cb
    rw [World.size_alloc] at this
    exact Lib.hid this
  have HAW : Hid (Calls Tryz.prog 10 #[] ((w.alloc (bx ha Aa Fa.len ca)).alloc (bx hb Ab Fb.len cb)) fun e w' => e = .returned (.bool true) ∧ Below ((w.alloc (bx ha Aa Fa.len ca)).alloc (bx hb Ab Fb.len cb)).heap.size ((w.alloc (bx ha Aa Fa.len ca)).alloc (bx hb Ab Fb.len cb)) w') := Lib.hid (awake_any _ (glob_below hG HB2.out) (hT.below HB2.out h16) (by rw [← HZ.out]; omega))
  obtain ⟨ma, hma⟩ : ∃ m, Fa.cnt + 1 = m := ⟨_, rfl⟩
  obtain ⟨mb, hmb⟩ : ∃ m, Fb.cnt + 1 = m := ⟨_, rfl⟩
  have HCa : Hid (∀ V, Below w.heap.size w V → Calls Tryz.prog 16 #[nv ha Aa Fa.len ca] V fun e w' => e = .returned (.int .i64 (ma : Int)) ∧ Below V.heap.size V w') := Lib.hid fun V hV => count_any ha Fa Aa ca V ma (kids_at hka hV) hma (by unfold maxLen; omega)
  have HCb : Hid (∀ V, Below w.heap.size w V → Calls Tryz.prog 16 #[nv hb Ab Fb.len cb] V fun e w' => e = .returned (.int .i64 (mb : Int)) ∧ Below V.heap.size V w') := Lib.hid fun V hV => count_any hb Fb Ab cb V mb (kids_at hkb hV) hmb (by unfold maxLen; omega)
  have ga1 : decide ((150 : Int) < (ma : Int)) = false := by simp; omega
  have gb1 : decide ((150 : Int) < (mb : Int)) = false := by simp; omega
  have HVa : Hid (∀ V, Below w.heap.size w V → Calls Tryz.prog 14 #[nv ha Aa Fa.len ca] V fun e w' => e = .returned (.bool true) ∧ Below V.heap.size V w') := Lib.hid fun V hV => by
    have := rvalid_any ha Fa Aa ca V ⟨hna, hFa, by omega⟩ (kids_at hka hV)
    rw [← nm_nmv3, hva] at this
    exact this
  have HVb : Hid (∀ V, Below w.heap.size w V → Calls Tryz.prog 14 #[nv hb Ab Fb.len cb] V fun e w' => e = .returned (.bool true) ∧ Below V.heap.size V w') := Lib.hid fun V hV => by
    have := rvalid_any hb Fb Ab cb V ⟨hnb, hFb, by omega⟩ (kids_at hkb hV)
    rw [← nm_nmv3, hvb] at this
    exact this
  obtain ⟨sa, hsa⟩ : ∃ s : ByteArray, ⟨(printT nm ha Fa).toArray⟩ = s := ⟨_, rfl⟩
  obtain ⟨sb, hsb⟩ : ∃ s : ByteArray, ⟨(printT nm hb Fb).toArray⟩ = s := ⟨_, rfl⟩
  have la : sa.data.toList = printT nm ha Fa := by rw [← hsa]
  have lb : sb.data.toList = printT nm hb Fb := by rw [← hsb]
  obtain ⟨v, hv⟩ : ∃ v, eqT ha Fa hb Fb = v := ⟨_, rfl⟩
  have ev : decide (sa.data.toList = sb.data.toList) = v := by rw [la, lb, ← hv]; exact Z.eq_text hva hna hFa hvb hnb hFb
  have ev1 : (sa.toList == sb.toList) = v := by rw [← ev, ByteArray.toList_eq, ByteArray.toList_eq, Bool.eq_iff_iff, beq_iff_eq, decide_eq_true_iff]
  have ev2 : decide (sa = sb) = v := by rw [← ev, Bool.eq_iff_iff, decide_eq_true_iff, decide_eq_true_iff]; exact ⟨fun h => by rw [h], fun h => Go.WideShapes.bytes_inj h⟩
  have evv : (v == v) = true := by simp
  have HPa : Hid (∀ V, Below w.heap.size w V → Calls Tryz.prog 23 #[nv ha Aa Fa.len ca] V fun e w' => e = .returned (.string sa) ∧ Below V.heap.size V w') := Lib.hid fun V hV => by
    have := print_any ha Fa Aa ca V (glob_below hG hV) (hT.below hV h16) (by have := hV.size; omega) hla (kids_at hka hV) hna hFa hca
    rw [hsa] at this
    exact this
  have HPb : Hid (∀ V, Below w.heap.size w V → Calls Tryz.prog 23 #[nv hb Ab Fb.len cb] V fun e w' => e = .returned (.string sb) ∧ Below V.heap.size V w') := Lib.hid fun V hV => by
    have := print_any hb Fb Ab cb V (glob_below hG hV) (hT.below hV h16) (by have := hV.size; omega) hlb (kids_at hkb hV) hnb hFb hcb
    rw [hsb] at this
    exact this
  have hsz : sa.size ≤ maxLen := by
    have h1 := (file_pp (B := 0) (b := 0) (W := w) hva hna hFa hca).2
    rw [M_size sa, la, show printT nm ha Fa = fileS Fa from if_pos hva]
    unfold lim at h1
    unfold maxLen
    omega
  have HSC : Hid (∀ V, Calls Tryz.prog 25 #[.string sa] V fun e w' => ∃ A n c a E, e = .returned (.tuple #[.slice A n c, .int .i64 a, .int .i64 E]) ∧ (E = 0 ∨ E = 3 ∧ (20000 : Int) < (sa.size : Int)) ∧ Below V.heap.size V w') := Lib.hid fun V => (rscanV sa V hsz).mono fun e w' hq => by
    obtain ⟨A, c, he, _, hb⟩ := hq
    refine ⟨A, _, c, _, _, he, ?_, hb⟩
    rw [la]
    rcases Z.scan_text hva hna hFa with h | h
    · exact .inl (by rw [h]; rfl)
    · refine .inr ⟨by rw [Z.scan_long h]; rfl, ?_⟩
      rw [M_size sa, la]
      omega
  have HEQ : Hid (∀ V, Below w.heap.size w V → Calls Tryz.prog 19 #[nv ha Aa Fa.len ca, nv hb Ab Fb.len cb] V fun e w' => e = .returned (.bool v) ∧ Below V.heap.size V w') := Lib.hid fun V hV => (sequal_any ha Fa hb Fb Aa Ab ca cb V (kids_at hka hV) (kids_at hkb hV) (by omega) (by omega)).mono fun e w' hq => ⟨by rw [hq.1, hv], hq.2⟩
  clear ga gb
  obtain ⟨na, hna'⟩ : ∃ n, Fa.len = n := ⟨_, rfl⟩
  obtain ⟨nb, hnb'⟩ : ∃ n, Fb.len = n := ⟨_, rfl⟩
  rw [hna'] at HB2 HZ NA NB HAW HCa HVa HPa HEQ ⊢
  rw [hnb'] at HB2 HZ NA NB HAW HCb HVb HPb HEQ ⊢
  clear hva hvb hsa hsb la lb hv ev hsz hG hT h16 hla hlb hka hkb hna hnb hFa hFb hca hcb hma hmb hna' hnb'
  go_enter Tryz.func8, Tryz.ntmps8
  go_wp2_with (first
    | (go_at_call 14; refine (HVb.out _ B4.out).mono ?_; rintro e w5 ⟨rfl, hb5⟩; have B5 : Hid (Below w.heap.size w w5) := Lib.hid (B4.out.trans (hb5.mono B4.out.size)); have N5 := Lib.hid (N4.out.below hb5); have M5 := Lib.hid (M4.out.below hb5); obtain ⟨p50, p51, p52, p53, p54, p55, p56, p57, p58⟩ := N5.out.cells; obtain ⟨q50, q51, q52, q53, q54, q55, q56, q57, q58⟩ := M5.out.cells; clear hb5)
    | (go_at_call 14; refine (HVa.out _ B3.out).mono ?_; rintro e w4 ⟨rfl, hb4⟩; have B4 : Hid (Below w.heap.size w w4) := Lib.hid (B3.out.trans (hb4.mono B3.out.size)); have N4 := Lib.hid (N3.out.below hb4); have M4 := Lib.hid (M3.out.below hb4); obtain ⟨p40, p41, p42, p43, p44, p45, p46, p47, p48⟩ := N4.out.cells; obtain ⟨q40, q41, q42, q43, q44, q45, q46, q47, q48⟩ := M4.out.cells; clear hb4)
    | (go_at_call 16; refine (HCb.out _ B2.out).mono ?_; rintro e w3 ⟨rfl, hb3⟩; have B3 : Hid (Below w.heap.size w w3) := Lib.hid (B2.out.trans (hb3.mono B2.out.size)); have N3 := Lib.hid (N2.out.below hb3); have M3 := Lib.hid (M2.out.below hb3); obtain ⟨p30, p31, p32, p33, p34, p35, p36, p37, p38⟩ := N3.out.cells; obtain ⟨q30, q31, q32, q33, q34, q35, q36, q37, q38⟩ := M3.out.cells; clear hb3)
    | (go_at_call 16; refine (HCa.out _ B1.out).mono ?_; rintro e w2 ⟨rfl, hb2⟩; have B2 : Hid (Below w.heap.size w w2) := Lib.hid (B1.out.trans (hb2.mono B1.out.size)); have N2 := Lib.hid (N1.out.below hb2); have M2 := Lib.hid (M1.out.below hb2); obtain ⟨p20, p21, p22, p23, p24, p25, p26, p27, p28⟩ := N2.out.cells; obtain ⟨q20, q21, q22, q23, q24, q25, q26, q27, q28⟩ := M2.out.cells; clear hb2)
    | (go_at_call 10; refine HAW.out.mono ?_; rintro e w1 ⟨rfl, hb1⟩; have B1 : Hid (Below w.heap.size w w1) := Lib.hid (HB2.out.trans (hb1.mono (by rw [← HZ.out]; omega))); have N1 := Lib.hid (NA.out.below hb1); have M1 := Lib.hid (NB.out.below hb1); obtain ⟨p0, p1, p2, p3, p4, p5, p6, p7, p8⟩ := N1.out.cells; obtain ⟨q0, q1, q2, q3, q4, q5, q6, q7, q8⟩ := M1.out.cells; clear hb1))
  have HS := Lib.hid (LB2.mk N5.out M5.out B5.out)
  go_region_held3 (fun w' => w'.cell? ⟨w.heap.size, 0, none⟩ = some (.int .i64 ha.kind) ∧ w'.cell? ⟨w.heap.size, 1, none⟩ = some (.string ha.text) ∧ w'.cell? ⟨w.heap.size, 2, none⟩ = some (.int .i64 ha.num) ∧ w'.cell? ⟨w.heap.size, 3, none⟩ = some (.int .i64 ha.pos) ∧ w'.cell? ⟨w.heap.size, 4, none⟩ = some (.slice Aa na ca) ∧ w'.cell? ⟨w.heap.size, 5, none⟩ = some (.int .i64 ha.tk) ∧ w'.cell? ⟨w.heap.size, 6, none⟩ = some (.string ha.tn) ∧ w'.cell? ⟨w.heap.size, 7, none⟩ = some (.int .i64 ha.ref) ∧ w'.cell? ⟨w.heap.size, 8, none⟩ = some (.int .i64 ha.up) ∧ w'.cell? ⟨w.heap.size + 1, 0, none⟩ = some (.int .i64 hb.kind) ∧ w'.cell? ⟨w.heap.size + 1, 1, none⟩ = some (.string hb.text) ∧ w'.cell? ⟨w.heap.size + 1, 2, none⟩ = some (.int .i64 hb.num) ∧ w'.cell? ⟨w.heap.size + 1, 3, none⟩ = some (.int .i64 hb.pos) ∧ w'.cell? ⟨w.heap.size + 1, 4, none⟩ = some (.slice Ab nb cb) ∧ w'.cell? ⟨w.heap.size + 1, 5, none⟩ = some (.int .i64 hb.tk) ∧ w'.cell? ⟨w.heap.size + 1, 6, none⟩ = some (.string hb.tn) ∧ w'.cell? ⟨w.heap.size + 1, 7, none⟩ = some (.int .i64 hb.ref) ∧ w'.cell? ⟨w.heap.size + 1, 8, none⟩ = some (.int .i64 hb.up) ∧ Below w.heap.size w w')
    (first
      | exact HS.out.start
      | exact LB2.keep (by assumption) hbb)
    (first
      | (go_at_call 23; (with_reducible refine (HPa.out _ ?_).mono ?_); (go_split_ands; assumption); rintro e w' ⟨rfl, hbb⟩)
      | (go_at_call 23; (with_reducible refine (HPb.out _ ?_).mono ?_); (go_split_ands; assumption); rintro e w' ⟨rfl, hbb⟩))
  all_goals
    have HS2 : Hid (LB2 w.heap.size (w.heap.size + 1) ha Aa na ca hb Ab nb cb w w') := Lib.hid (by first | assumption | (unfold LB2; go_split_ands; repeat' apply And.intro) <;> assumption)
    go_wp2_with (first
      | (go_at_call 19; refine (HEQ.out _ B8.out).mono ?_; rintro e w9 ⟨rfl, hb9⟩; have B9 : Hid (Below w.heap.size w w9) := Lib.hid (B8.out.trans (hb9.mono B8.out.size)); clear hb9)
      | (go_at_call 25; refine (HSC.out _).mono ?_; rintro e w8 ⟨A8, n8, c8, a8, E, rfl, hE, hb8⟩; obtain ⟨r0, r1, r2, r3, r4, r5, r6, r7, r8, r9, r10, r11, r12, r13, r14, r15, r16, r17, b8⟩ := LB2.keep HS2.out hb8; have B8 := Lib.hid b8; clear b8 hb8; rcases hE with rfl | ⟨rfl, hE⟩))
    all_goals
      go_ret
      exact ⟨rfl, B9.out⟩
theorem text_law (ha hb : Hd) (Fa Fb : Fo) (Aa Ab : Option Addr) (ca cb : Nat) (w : World) (hG : Glob w) (hT : Tb w) (h16 : 5 ≤ w.heap.size) (hla : Fa.len ≤ ca) (hlb : Fb.len ≤ cb) (hka : Kids (Lt w.heap.size) w Aa Fa) (hkb : Kids (Lt w.heap.size) w Ab Fb) (hna : numIx ha) (hnb : numIx hb) (hFa : Fa.AllH numIx) (hFb : Fb.AllH numIx) (hca : Fa.cnt + 1 ≤ 1048576) (hcb : Fb.cnt + 1 ≤ 1048576) : Calls Tryz.prog 8 #[nv ha Aa Fa.len ca, nv hb Ab Fb.len cb] w fun e w' => e = .returned (.bool true) ∧ Below w.heap.size w w' := by
  by_cases ga : Fa.cnt + 1 ≤ 150
  · by_cases gb : Fb.cnt + 1 ≤ 150
    · cases hva : validT nm ha Fa
      · exact text_va ha hb Fa Fb Aa Ab ca cb w hG hT h16 hla hlb hka hkb hna hnb hFa hFb hca hcb ga gb hva
      · cases hvb : validT nm hb Fb
        · exact text_vb ha hb Fa Fb Aa Ab ca cb w hG hT h16 hla hlb hka hkb hna hnb hFa hFb hca hcb ga gb hva hvb
        · exact text_main ha hb Fa Fb Aa Ab ca cb w hG hT h16 hla hlb hka hkb hna hnb hFa hFb hca hcb ga gb hva hvb
    · exact text_cb ha hb Fa Fb Aa Ab ca cb w hG hT h16 hla hlb hka hkb hna hnb hFa hFb hca hcb ga gb
  · exact text_ca ha hb Fa Fb Aa Ab ca cb w hG hT h16 hla hlb hka hkb hna hnb hFa hFb hca hcb ga
end Go.Proofs.YticbcnhbpbaocaaGreatDoor
