/-
  The laws ObjectTrips, ObjectInvalid.
-/
import Derived.Test.YtlkaeonedijfpaaQV
set_option linter.all false
namespace Go.Proofs.Ytlkaeonedijfpaa
open Go.RowKit C
theorem RetB.val {w : World} {l : Bs} {n : Int} {e : Ending} {w' : World} (h : RetB w l n e w') : ∃ A cap, e = .returned (.tuple #[.slice A l.length cap, .int .i64 n]) ∧ l.length ≤ cap ∧ cap ≤ maxLen ∧ Row 1 (ByAt w') A l ∧ Below w.heap.size w w' := by
  obtain ⟨v, rfl, ho, hb⟩ := h
  obtain ⟨A, c, rfl, h1, h2, h3⟩ := ho.row
  exact ⟨A, c, rfl, h1, h2, h3, hb⟩
theorem blk_low {w V : World} {b : Nat} {o : Obj} (h : w.heap[b]? = some o) (hb : Below w.heap.size w V) : V.heap[b]? = some o := (hb.block b (Array.getElem?_eq_some_iff.1 h).1).trans h
set_option maxRecDepth 100000 in
set_option maxHeartbeats 8000000 in
theorem law_ObjectTrips (p : Pg) (A B D : Option Addr) (ca cb cd : Nat) (w : World) (hp : PgAt w p A B D ca cb cd) (hb : Bk p) :
    Calls Try.prog 8 #[pv p A B D ca cb cd] w fun e w' => e = .returned (.bool true) ∧ Below w.heap.size w w' := by
  have HW : Hid (∀ V, Calls Try.prog 11 #[] V fun e w' => e = .returned (.bool true) ∧ Below V.heap.size V w') := Lib.hid awake_any
  have HX := Lib.hid (heap_alloc_new w (oPg p A B D ca cb cd))
  have HB0 := Lib.hid (below1 w (oPg p A B D ca cb cd))
  have HV : Hid (∀ V, Below w.heap.size w V → Calls Try.prog 21 #[pv p A B D ca cb cd] V fun e w' => e = .returned (.bool (validB p)) ∧ Below V.heap.size V w') := Lib.hid fun V hV => rvalid_any p A B D ca cb cd V (hp.below hV)
  have HP := Lib.hid hp
  by_cases hv : validB p = true
  · have hip := pg_ip hp hb
    have HE : Hid (∀ V A B D ca cb cd, PgAt V p A B D ca cb cd → Calls Try.prog 14 #[pv p A B D ca cb cd] V (RetB V (formE p) 0)) := Lib.hid fun V A B D ca cb cd h => oenc_yes p A B D ca cb cd V h hb hv
    have hL1 := form_len_le hip hb
    have hL2 : ans (formE p) = .ok p := by rw [ans_form hip, if_pos hv]
    obtain ⟨L, hL⟩ : ∃ L, formE p = L := ⟨_, rfl⟩
    rw [hL] at HE hL1 hL2
    rw [hv] at HV
    have HL2 := Lib.hid hL2
    clear hv hp hip hL hL2 hb
    go_enter Try.func8, Try.ntmps8
    go_wp2_with fail
    refine (HW.out _).mono ?_
    rintro e w1 ⟨rfl, hb1⟩
    have HB1 := Lib.hid (bel_step HB0.out hb1)
    have HX1 := Lib.hid (blk_low HX.out hb1)
    clear hb1
    obtain ⟨⟨c0, c1, c2, c3⟩, _⟩ := cells4 HX1.out
    go_wp2_with fail
    refine (HV.out _ HB1.out).mono ?_
    rintro e w2 ⟨rfl, hb2⟩
    have HB2 := Lib.hid (bel_step HB1.out hb2)
    have HX2 := Lib.hid (blk_low HX1.out hb2)
    clear hb2 c0 c1 c2 c3
    obtain ⟨⟨c0, c1, c2, c3⟩, _⟩ := cells4 HX2.out
    go_wp2_with fail
    refine (HE.out _ _ _ _ _ _ _ (HP.out.below HB2.out)).mono ?_
    rintro e w3 hr
    obtain ⟨A3, k3, rfl, hc3, hm3, hr3, hb3⟩ := hr.val
    have HB3 := Lib.hid (bel_step HB2.out hb3)
    have HX3 := Lib.hid (blk_low HX2.out hb3)
    have HR3 := Lib.hid hr3
    have HD := odec_any w3 A3 L k3 hc3 hm3 hr3 (by omega)
    rw [HL2.out] at HD
    have HDD := Lib.hid HD
    clear hr hb3 hc3 hm3 hr3 HD c0 c1 c2 c3
    go_wp2_with fail
    refine HDD.out.mono ?_
    rintro e w4 ⟨A4, B4, D4, a4, b4, d4, rfl, hp4, hb4⟩
    have HB4 := Lib.hid (bel_step HB3.out hb4)
    have HX4 := Lib.hid (blk_low HX3.out hb4)
    have HR4 := Lib.hid (HR3.out.imp fun x g o q => q.below hb4)
    have HY := Lib.hid (heap_alloc_new w4 (oPg p A4 B4 D4 a4 b4 d4))
    have hb5 := below1 w4 (oPg p A4 B4 D4 a4 b4 d4)
    have HB5 := Lib.hid (bel_step HB4.out hb5)
    have HX5 := Lib.hid (blk_low HX4.out hb5)
    have HR5 := Lib.hid (HR4.out.imp fun x g o q => q.below hb5)
    have HP5 := Lib.hid (hp4.below hb5)
    clear hp4 hb4 hb5
    obtain ⟨⟨d0, d1, d2, d3⟩, _⟩ := cells4 HY.out
    go_wp2_with fail
    refine (HE.out _ _ _ _ _ _ _ HP5.out).mono ?_
    rintro e w6 hr
    obtain ⟨A6, k6, rfl, hc6, hm6, hr6, hb6⟩ := hr.val
    have HB6 := Lib.hid (bel_step HB5.out hb6)
    have HX6 := Lib.hid (blk_low HX5.out hb6)
    have HY6 := Lib.hid (blk_low HY.out hb6)
    have HR6 := Lib.hid (HR5.out.imp fun x g o q => q.below hb6)
    have HS6 := Lib.hid hr6
    have HEQ := requal_any p A B D ca cb cd p A4 B4 D4 a4 b4 d4 w6 (HP.out.below HB6.out) (HP5.out.below hb6)
    rw [decide_eq_true rfl] at HEQ
    have HQ := Lib.hid HEQ
    clear hr hb6 hc6 hm6 hr6 HEQ d0 d1 d2 d3
    obtain ⟨⟨c0, c1, c2, c3⟩, _⟩ := cells4 HX6.out
    obtain ⟨⟨d0, d1, d2, d3⟩, _⟩ := cells4 HY6.out
    go_wp2_with fail
    refine HQ.out.mono ?_
    rintro e w7 ⟨rfl, hb7⟩
    have HB7 := Lib.hid (bel_step HB6.out hb7)
    have HSA := same_any w7 A3 A6 L L k3 k6 (HR6.out.imp fun x g o q => q.below hb7) (HS6.out.imp fun x g o q => q.below hb7)
    rw [decide_eq_true rfl] at HSA
    have HSS := Lib.hid HSA
    clear hb7 HSA c0 c1 c2 c3 d0 d1 d2 d3
    go_wp2_with fail
    refine HSS.out.mono ?_
    rintro e w8 ⟨rfl, rfl⟩
    go_wp2
    go_ret
    exact ⟨rfl, HB7.out⟩
  · have hv2 : validB p = false := by simpa using hv
    rw [hv2] at HV
    clear hv hp hv2 hb
    go_enter Try.func8, Try.ntmps8
    go_wp2_with fail
    refine (HW.out _).mono ?_
    rintro e w1 ⟨rfl, hb1⟩
    have HB1 := Lib.hid (bel_step HB0.out hb1)
    have HX1 := Lib.hid (blk_low HX.out hb1)
    clear hb1
    obtain ⟨⟨c0, c1, c2, c3⟩, _⟩ := cells4 HX1.out
    go_wp2_with fail
    refine (HV.out _ HB1.out).mono ?_
    rintro e w2 ⟨rfl, hb2⟩
    have HB2 := Lib.hid (bel_step HB1.out hb2)
    clear hb2 c0 c1 c2 c3
    go_wp2_with fail
    refine (HW.out _).mono ?_
    rintro e w3 ⟨rfl, hb3⟩
    have HB3 := Lib.hid (bel_step HB2.out hb3)
    clear hb3
    go_wp2
    go_ret
    exact ⟨rfl, HB3.out⟩
set_option maxRecDepth 100000 in
set_option maxHeartbeats 8000000 in
theorem law_ObjectInvalid (p : Pg) (A B D : Option Addr) (ca cb cd : Nat) (w : World) (hp : PgAt w p A B D ca cb cd) (hb : Bk p) :
    Calls Try.prog 7 #[pv p A B D ca cb cd] w fun e w' => e = .returned (.bool true) ∧ Below w.heap.size w w' := by
  have HW : Hid (∀ V, Calls Try.prog 11 #[] V fun e w' => e = .returned (.bool true) ∧ Below V.heap.size V w') := Lib.hid awake_any
  have HX := Lib.hid (heap_alloc_new w (oPg p A B D ca cb cd))
  have HB0 := Lib.hid (below1 w (oPg p A B D ca cb cd))
  have HV : Hid (∀ V, Below w.heap.size w V → Calls Try.prog 21 #[pv p A B D ca cb cd] V fun e w' => e = .returned (.bool (validB p)) ∧ Below V.heap.size V w') := Lib.hid fun V hV => rvalid_any p A B D ca cb cd V (hp.below hV)
  have HP := Lib.hid hp
  have hip := pg_ip hp hb
  have HE : Hid (∀ V, Below w.heap.size w V → Calls Try.prog 20 #[pv p A B D ca cb cd] V fun e w' => ∃ v, e = .returned v ∧ OwnB V.heap.size w' v (formE p) ∧ Below V.heap.size V w') := Lib.hid fun V hV => qbytes_any p A B D ca cb cd V (hp.below hV) hb
  have hL1 := form_len_le hip hb
  have hL2 : ans (formE p) = if validB p = true then .ok p else .arg := ans_form hip
  obtain ⟨L, hL⟩ : ∃ L, formE p = L := ⟨_, rfl⟩
  rw [hL] at HE hL1 hL2
  by_cases hv : validB p = true
  · rw [if_pos hv] at hL2
    rw [hv] at HV
    have HL2 := Lib.hid hL2
    clear hv hp hip hL hL2 hb
    go_enter Try.func7, Try.ntmps7
    go_wp2_with fail
    refine (HW.out _).mono ?_
    rintro e w1 ⟨rfl, hb1⟩
    have HB1 := Lib.hid (bel_step HB0.out hb1)
    have HX1 := Lib.hid (blk_low HX.out hb1)
    clear hb1
    obtain ⟨⟨c0, c1, c2, c3⟩, _⟩ := cells4 HX1.out
    go_wp2_with fail
    refine (HE.out _ HB1.out).mono ?_
    rintro e w3 ⟨v3, rfl, ho3, hb3⟩
    obtain ⟨A3, k3, rfl, hc3, hm3, hr3⟩ := ho3.row
    have HB3 := Lib.hid (bel_step HB1.out hb3)
    have HX3 := Lib.hid (blk_low HX1.out hb3)
    have HD := odec_any w3 A3 L k3 hc3 hm3 hr3 (by omega)
    rw [HL2.out] at HD
    have HDD := Lib.hid HD
    clear ho3 hb3 hc3 hm3 hr3 HD c0 c1 c2 c3
    go_wp2_with fail
    refine HDD.out.mono ?_
    rintro e w4 ⟨A4, B4, D4, a4, b4, d4, rfl, hp4, hb4⟩
    have HB4 := Lib.hid (bel_step HB3.out hb4)
    have HX4 := Lib.hid (blk_low HX3.out hb4)
    have HY := Lib.hid (heap_alloc_new w4 (oPg p A4 B4 D4 a4 b4 d4))
    have hb5 := below1 w4 (oPg p A4 B4 D4 a4 b4 d4)
    have HB5 := Lib.hid (bel_step HB4.out hb5)
    have HX5 := Lib.hid (blk_low HX4.out hb5)
    have HP5 := Lib.hid (hp4.below hb5)
    clear hp4 hb4 hb5
    obtain ⟨⟨c0, c1, c2, c3⟩, _⟩ := cells4 HX5.out
    go_wp2_with fail
    refine (HV.out _ HB5.out).mono ?_
    rintro e w6 ⟨rfl, hb6⟩
    have HB6 := Lib.hid (bel_step HB5.out hb6)
    have HX6 := Lib.hid (blk_low HX5.out hb6)
    have HY6 := Lib.hid (blk_low HY.out hb6)
    have HEQ := requal_any p A B D ca cb cd p A4 B4 D4 a4 b4 d4 w6 (HP.out.below HB6.out) (HP5.out.below hb6)
    rw [decide_eq_true rfl] at HEQ
    have HQ := Lib.hid HEQ
    clear hb6 HEQ c0 c1 c2 c3
    obtain ⟨⟨c0, c1, c2, c3⟩, _⟩ := cells4 HX6.out
    obtain ⟨⟨d0, d1, d2, d3⟩, _⟩ := cells4 HY6.out
    go_wp2_with fail
    refine HQ.out.mono ?_
    rintro e w7 ⟨rfl, hb7⟩
    have HB7 := Lib.hid (bel_step HB6.out hb7)
    clear hb7 c0 c1 c2 c3 d0 d1 d2 d3
    go_wp2
    go_ret
    exact ⟨rfl, HB7.out⟩
  · rw [if_neg hv] at hL2
    have hv2 : validB p = false := by simpa using hv
    rw [hv2] at HV
    have HL2 := Lib.hid hL2
    clear hv hp hip hL hL2 hb hv2
    go_enter Try.func7, Try.ntmps7
    go_wp2_with fail
    refine (HW.out _).mono ?_
    rintro e w1 ⟨rfl, hb1⟩
    have HB1 := Lib.hid (bel_step HB0.out hb1)
    have HX1 := Lib.hid (blk_low HX.out hb1)
    clear hb1
    obtain ⟨⟨c0, c1, c2, c3⟩, _⟩ := cells4 HX1.out
    go_wp2_with fail
    refine (HE.out _ HB1.out).mono ?_
    rintro e w3 ⟨v3, rfl, ho3, hb3⟩
    obtain ⟨A3, k3, rfl, hc3, hm3, hr3⟩ := ho3.row
    have HB3 := Lib.hid (bel_step HB1.out hb3)
    have HX3 := Lib.hid (blk_low HX1.out hb3)
    have HD := odec_any w3 A3 L k3 hc3 hm3 hr3 (by omega)
    rw [HL2.out] at HD
    have HDD := Lib.hid HD
    clear ho3 hb3 hc3 hm3 hr3 HD c0 c1 c2 c3
    go_wp2_with fail
    refine HDD.out.mono ?_
    rintro e w4 ⟨rfl, hb4⟩
    have HB4 := Lib.hid (bel_step HB3.out hb4)
    have HX4 := Lib.hid (blk_low HX3.out hb4)
    have HY := Lib.hid (heap_alloc_new w4 zPg)
    have hb5 := below1 w4 zPg
    have HB5 := Lib.hid (bel_step HB4.out hb5)
    have HX5 := Lib.hid (blk_low HX4.out hb5)
    clear hb4 hb5
    obtain ⟨⟨c0, c1, c2, c3⟩, _⟩ := cells4 HX5.out
    go_wp2_with fail
    refine (HV.out _ HB5.out).mono ?_
    rintro e w6 ⟨rfl, hb6⟩
    have HB6 := Lib.hid (bel_step HB5.out hb6)
    have HY6 := Lib.hid (blk_low HY.out hb6)
    have HEQ := requal_any noP none none none 0 0 0 noP none none none 0 0 0 w6 (no_at _) (no_at _)
    rw [decide_eq_true rfl] at HEQ
    have HQ : Hid (Calls Try.prog 22 #[emptyV, emptyV] w6 fun e w' => e = .returned (.bool true) ∧ Below w6.heap.size w6 w') := Lib.hid HEQ
    clear hb6 HEQ c0 c1 c2 c3
    obtain ⟨⟨d0, d1, d2, d3⟩, _⟩ := cells4 HY6.out
    go_wp2_with fail
    refine HQ.out.mono ?_
    rintro e w7 ⟨rfl, hb7⟩
    have HB7 := Lib.hid (bel_step HB6.out hb7)
    clear hb7 d0 d1 d2 d3
    go_wp2
    go_ret
    exact ⟨rfl, HB7.out⟩
end Go.Proofs.Ytlkaeonedijfpaa
