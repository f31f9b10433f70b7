/-
  The specification's Decode.
  The law's own decoded; the laws ObjectDecode and ObjectSealed.
-/
import Derived.Test.YtlkaeonedijfpaaSL
import Derived.Test.YtlkaeonedijfpaaQS
import Derived.Test.YtlkaeonedijfpaaQV
import Derived.Test.YtlkaeonedijfpaaSG
set_option linter.all false
namespace Go.Proofs.Ytlkaeonedijfpaa
open Go.RowKit C
theorem Sd.start (w : World) (A : Option Addr) (L : Bs) (cap : Nat) (hc : L.length ≤ cap) (hm : cap ≤ maxLen) (hr : Row 1 (ByAt w) A L) (h4 : 4 ≤ L.length) : Sd w (w.alloc (.cells #[.slice A L.length cap, .int .i64 4, .bool false] 67)) w.heap.size L (some (L.drop 4)) :=
  ⟨⟨A, cap, 4, heap_alloc_new w _, hc, hm, hr, h4, fun l e => by cases e; rfl⟩, below1 w _, Nat.le_refl _⟩
theorem qrprogram_var {w0 w : World} {rb : Nat} {L : Bs} {s s' : Option Bs} {p : Pg} (h : Sd w0 w rb L s) (hL : L.length ≤ 1100000) (e1 : pgS s = (p, s')) :
    Calls Try.prog 48 #[.pointer (some ⟨rb, 0, none⟩)] w fun e w' => ∃ A B D ca cb cd, e = .returned (pv p A B D ca cb cd) ∧ Sd w0 w' rb L s' ∧ Mv w w' rb ∧ ∀ V, Stab (w.heap.size + 1) w' V → PgAt V p A B D ca cb cd := by
  have := qrprogram_any w0 w rb L s h hL
  rw [e1] at this
  exact this
theorem pgS_no {l : Bs} (h : (pgS (some l)).2 = none) : pgD l = none := by
  cases hd : pgD l with
  | none => rfl
  | some q => obtain ⟨x, r⟩ := q; rw [sim_pg.yes _ _ _ hd] at h; cases h
theorem pgS_yes {l r : Bs} (h : (pgS (some l)).2 = some r) : pgD l = some ((pgS (some l)).1, r) := by
  cases hd : pgD l with
  | none => rw [sim_pg.no _ hd] at h; cases h
  | some q =>
    obtain ⟨x, r'⟩ := q
    have e := sim_pg.yes _ _ _ hd
    rw [e] at h
    rw [e]
    cases h; rfl
set_option maxRecDepth 100000 in
set_option maxHeartbeats 4000000 in
theorem qdec_short (w : World) (A : Option Addr) (l : Bs) (cap : Nat) (hs : l.length < 8) :
    Calls Try.prog 27 #[.slice A l.length cap] w fun e w' => e = .returned (.tuple #[emptyV, .int .i64 8]) ∧ Below w.heap.size w w' := by
  have h1 : (l.length : Int) - 4 < 4 := by omega
  have h2 : -9223372036854775808 ≤ (l.length : Int) - 4 := by omega
  have hl : (l.length : Int) < 8 := by omega
  go_enter Try.func27, Try.ntmps27
  go_wp2
  refine bodyPost_ret (res_cell_tmp rfl _ _ w.heap.size (.slice none 0 0) (.slice none 0 0) (.slice none 0 0) (.int .i64 0) rfl ?_) rfl ⟨rfl, ?_⟩
  · exact heap_alloc_new w _
  · exact below1 w _
set_option maxRecDepth 100000 in
set_option maxHeartbeats 8000000 in
theorem qdec_long (w : World) (A : Option Addr) (l : Bs) (cap : Nat) (hc : l.length ≤ cap) (hm : cap ≤ maxLen) (hr : Row 1 (ByAt w) A l) (hs : 8 ≤ l.length) (hl0 : l.length ≤ 1100000) :
    Calls Try.prog 27 #[.slice A l.length cap] w (AGives w (ans l)) := by
  obtain ⟨e, he⟩ : ∃ e, l.length - 4 = e := ⟨_, rfl⟩
  have hel : e + 4 = l.length := by omega
  have he4 : 4 ≤ e := by omega
  have h1 : decide ((l.length : Int) - 4 < 4) = false := by simp; omega
  have h2 : (l.length : Int) - 4 = (e : Int) := by omega
  have h1b : decide ((e : Int) < 4) = false := by simp; omega
  have h1c : ¬ (e : Int) < 4 := by omega
  obtain ⟨g, o, rfl, hh⟩ := hr.at (by omega)
  have hb0 : Below w.heap.size w (w.alloc zPg) := below1 w zPg
  have hR0 : Row 1 (ByAt (w.alloc zPg)) (some ⟨g, o, none⟩) l := hr.imp fun x g o q => q.below hb0
  have hcv := run_text (w.alloc zPg) (cap := cap) (l := l.take 4) (n := 4) (by rw [List.length_take]; omega) (brow_take hR0 4)
  have hsl4 : ∀ V, (Instr.sliceAt 22 (.slice (some ⟨g, o, none⟩) l.length cap) none (some (.int .i64 4)) none).run Try.prog V = .ok (.slice (some ⟨g, o, none⟩) 4 cap) V := by
    intro V
    have a3 : (4 : Int) ≤ (cap : Int) := by omega
    have a4 : 4 ≤ cap := by omega
    simp [go_sem, a3, a4, sliced]
  have hsle : ∀ V, (Instr.sliceAt 22 (.slice (some ⟨g, o, none⟩) l.length cap) none (some (.int .i64 (e : Int))) none).run Try.prog V = .ok (.slice (some ⟨g, o, none⟩) e cap) V := by
    intro V
    have a3 : (e : Int) ≤ (cap : Int) := by omega
    have a4 : e ≤ cap := by omega
    have a5 : (0 : Int) ≤ (e : Int) := by omega
    simp [go_sem, a3, a4, a5, sliced]
  obtain ⟨T, hT⟩ : ∃ T, (⟨(l.take 4).toArray⟩ : ByteArray) = T := ⟨_, rfl⟩
  rw [hT] at hcv
  have HZ := Lib.hid (heap_alloc_new w zPg)
  have HB0 := Lib.hid hb0
  have HR0 := Lib.hid hR0
  by_cases hmark : l.take 4 = C.mark
  · obtain rfl : T = ⟨#[105, 108, 118, 49]⟩ := by rw [← hT, hmark]; rfl
    have HA : Hid (ans l = if ¬ l.drop e = sumE (sumF (l.take e)) then .sum else match bodyD ((l.take e).drop 4) with | none => .form | some p => if validB p = true then .ok p else .arg) := Lib.hid (by
      unfold ans; rw [if_neg (by rw [hmark]; simp; omega), he]; rfl)
    have hle : (l.take e).length = e := by rw [List.length_take]; omega
    have hSU := qsum_any (some ⟨g, o, none⟩) (l.take e) cap (w.alloc zPg) (by omega) (brow_take hR0 e)
    rw [hle] at hSU
    obtain ⟨S, hS⟩ : ∃ S, sumF (l.take e) = S := ⟨_, rfl⟩
    rw [hS] at hSU HA
    obtain ⟨d0, d1, d2, d3, hE, g0, g1, g2, g3⟩ := sumE_walk S
    have hslt := S.isLt
    rw [hE] at HA
    have HSU := Lib.hid hSU
    have HLE := Lib.hid hle
    obtain ⟨x0, x1, x2, x3, hx⟩ : ∃ x0 x1 x2 x3, l.drop e = [x0, x1, x2, x3] := by
      have hld : (l.drop e).length = 4 := by rw [List.length_drop]; omega
      match l.drop e, hld with
      | [x0, x1, x2, x3], _ => exact ⟨x0, x1, x2, x3, rfl⟩
    rw [hx] at HA
    have hcell : ∀ i, (hi : i < 4) → (w.alloc zPg).cell? ⟨g, o + (e + i), none⟩ = some (u8v ([x0, x1, x2, x3][i]'hi)) := by
      intro i hi
      obtain ⟨g', o', e1, hh'⟩ := hR0.at (by omega)
      cases e1
      have := (hh' (e + i) (by omega)).c0
      rw [Nat.mul_one] at this
      rw [this]
      have e2 : (l.drop e)[i]'(by rw [List.length_drop]; omega) = l[e + i]'(by omega) := List.getElem_drop
      rw [← e2]
      simp only [hx]
    have y0 := hcell 0 (by omega)
    have y1 := hcell 1 (by omega)
    have y2 := hcell 2 (by omega)
    have y3 := hcell 3 (by omega)
    simp only [List.getElem_cons_zero, List.getElem_cons_succ, Nat.add_zero, u8v] at y0 y1 y2 y3
    have i1 : (e : Int) + 1 < (l.length : Int) := by omega
    have i2 : (e : Int) + 2 < (l.length : Int) := by omega
    have i3 : (e : Int) + 3 < (l.length : Int) := by omega
    have i0 : (e : Int) < (l.length : Int) := by omega
    have j1 : ((e : Int) + 1).toNat = e + 1 := by omega
    have j2 : ((e : Int) + 2).toNat = e + 2 := by omega
    have j3 : ((e : Int) + 3).toNat = e + 3 := by omega
    have k0 : (0 : Int) ≤ (e : Int) := by omega
    have k1 : (0 : Int) ≤ (e : Int) + 1 := by omega
    have k2 : (0 : Int) ≤ (e : Int) + 2 := by omega
    have k3 : (0 : Int) ≤ (e : Int) + 3 := by omega
    clear hcell hmark hr hh hT he hE hR0 hb0 hS hSU hle hx
    by_cases ea : x0 = d0 ∧ x1 = d1 ∧ x2 = d2 ∧ x3 = d3
    · obtain ⟨rfl, rfl, rfl, rfl⟩ := ea
      obtain ⟨L, hL⟩ : ∃ L, l.take e = L := ⟨_, rfl⟩
      rw [hL] at HA HLE
      have hRL : Row 1 (ByAt (w.alloc zPg)) (some ⟨g, o, none⟩) L := by rw [← hL]; exact brow_take HR0.out e
      obtain ⟨p, s', hps⟩ : ∃ p s', pgS (some (L.drop 4)) = (p, s') := ⟨_, _, rfl⟩
      have hst := Sd.start (w.alloc zPg) (some ⟨g, o, none⟩) L cap (by rw [HLE.out]; omega) hm hRL (by rw [HLE.out]; omega)
      have hLl : L.length ≤ 1100000 := by rw [HLE.out]; omega
      have hpr := qrprogram_var hst hLl hps
      rw [HLE.out, World.size_alloc] at hpr
      have HPR := Lib.hid hpr
      have hA2 : ans l = match bodyD (L.drop 4) with | none => .form | some p => if validB p = true then .ok p else .arg := by rw [HA.out, if_neg (by simp)]
      have HA2 := Lib.hid hA2
      have HNO : Hid (s' = none → ans l = .form) := Lib.hid fun hn => by
        rw [hA2]; unfold bodyD; rw [pgS_no (by rw [hps]; exact hn)]
      have HMO : Hid (∀ c r, s' = some (c :: r) → ans l = .form) := Lib.hid fun c r hn => by
        rw [hA2]; unfold bodyD; rw [pgS_yes (r := c :: r) (by rw [hps]; exact hn)]
      have HYE : Hid (s' = some [] → ans l = if validB p = true then .ok p else .arg) := Lib.hid fun hn => by
        rw [hA2]; unfold bodyD; rw [pgS_yes (r := []) (by rw [hps]; exact hn), hps]
      clear hL hRL hps hst hpr hA2 HA HA2 hLl
      go_enter Try.func27, Try.ntmps27
      go_wp2_with fail
      refine HSU.out.mono ?_
      rintro e1 w1 ⟨rfl, rfl⟩
      go_wp2_with fail
      refine HPR.out.mono ?_
      rintro e1 w6 ⟨A6, B6, D6, ca6, cb6, cd6, rfl, hs6, hm6, hp6⟩
      have hsz := hm6.size
      simp only [World.size_alloc] at hsz
      have hb6 : Below w.heap.size w w6 := (below2 w zPg (.cells #[.slice (some ⟨g, o, none⟩) e cap, .int .i64 4, .bool false] 67)).grown hm6 (by simp; omega) (fun k hk => by cases hk; simp)
      have hx6 : w6.heap[w.heap.size]? = some zPg := (hm6.keep (by simp; omega) (by simp)).trans (heap2a w zPg _)
      have hb7 := hb6.alloc hb6.size (oPg p A6 B6 D6 ca6 cb6 cd6)
      have hx7 : (w6.alloc (oPg p A6 B6 D6 ca6 cb6 cd6)).heap[w.heap.size]? = some zPg := (heap_alloc_old _ _ (by omega)).trans hx6
      have hy7 := heap_alloc_new w6 (oPg p A6 B6 D6 ca6 cb6 cd6)
      have hs7 := hs6.alloc (oPg p A6 B6 D6 ca6 cb6 cd6)
      obtain ⟨A', cap', n, hq1, hq2, hq3, hq4, hq5, hq6⟩ := hs7.blk
      obtain ⟨⟨r0, r1, r2⟩, _, _, _⟩ := cells3' hq1
      have HX7 := Lib.hid hx7
      have HB7 := Lib.hid hb7
      have HP6 := Lib.hid hp6
      have HY7 := Lib.hid hy7
      obtain ⟨⟨c0, c1, c2, c3⟩, z0, z1, z2, z3⟩ := cells4 HX7.out
      obtain ⟨⟨d0', d1', d2', d3'⟩, _⟩ := cells4 HY7.out
      cases s' with
      | none =>
        have HN := Lib.hid (HNO.out rfl)
        simp only [isBad] at r2
        clear hs6 hm6 hp6 hb6 hx6 hb7 hx7 hy7 hs7 hq1 hq4 hq6
        go_wp2
        rw [HN.out]
        refine bodyPost_ret (res_cell_tmp rfl _ _ w.heap.size (.slice none 0 0) (.slice none 0 0) (.slice none 0 0) (.int .i64 0) rfl (blk4 HX7.out)) rfl ⟨rfl, set4_bel HB7.out⟩
      | some r =>
        simp only [isBad] at r2
        have hrn := hq6 r rfl
        cases r with
        | cons c r =>
          have HN := Lib.hid (HMO.out c r rfl)
          have hlen := congrArg List.length hrn
          rw [List.length_drop, List.length_cons, HLE.out] at hlen
          have hne : ¬ (n : Int) = (e : Int) := by omega
          clear hs6 hm6 hp6 hb6 hx6 hb7 hx7 hy7 hs7 hq1 hq4 hq6 hrn hlen
          go_wp2
          rw [HN.out]
          refine bodyPost_ret (res_cell_tmp rfl _ _ w.heap.size (.slice none 0 0) (.slice none 0 0) (.slice none 0 0) (.int .i64 0) rfl (blk4 HX7.out)) rfl ⟨rfl, set4_bel HB7.out⟩
        | nil =>
          have HN := Lib.hid (HYE.out rfl)
          have hlen := congrArg List.length hrn
          rw [List.length_drop, HLE.out] at hlen
          rw [HLE.out] at hq5
          have hle0 : e - n = 0 := hlen.symm
          obtain rfl : n = e := by omega
          have hpa : PgAt (w6.alloc (oPg p A6 B6 D6 ca6 cb6 cd6)) p A6 B6 D6 ca6 cb6 cd6 := hp6 _ ⟨by simp, fun k h1 h2 => heap_alloc_old _ _ h2⟩
          have HV := Lib.hid (rvalid_any p A6 B6 D6 ca6 cb6 cd6 _ hpa)
          clear hs6 hm6 hp6 hb6 hx6 hb7 hx7 hy7 hs7 hq1 hq4 hq6 hrn hlen hpa hle0
          by_cases hv : validB p = true
          · rw [hv] at HV
            have HN2 : Hid (ans l = .ok p) := Lib.hid (by rw [HN.out, if_pos hv])
            clear hv
            go_wp2_with fail
            refine HV.out.mono ?_
            rintro e1 w8 ⟨rfl, hb8⟩
            have hb8s := hb8.size
            simp only [World.size_alloc] at hb8s
            have hx8 := (hb8.block w.heap.size (by simp; omega)).trans HX7.out
            have hy8 := (hb8.block w6.heap.size (by simp)).trans HY7.out
            have HX8 := Lib.hid hx8
            have HB8 := Lib.hid (HB7.out.trans (hb8.mono (by simp; omega)))
            have HB88 := Lib.hid hb8
            clear c0 c1 c2 c3 z0 z1 z2 z3 d0' d1' d2' d3' hx8
            obtain ⟨⟨c0, c1, c2, c3⟩, z0, z1, z2, z3⟩ := cells4 HX8.out
            obtain ⟨⟨d0', d1', d2', d3'⟩, _⟩ := cells4 hy8
            clear hb8 hy8
            go_wp2
            rw [HN2.out]
            refine bodyPost_ret (res_cell_tmp rfl _ _ w.heap.size _ _ _ _ rfl (blk4 HX8.out)) rfl ⟨A6, B6, D6, ca6, cb6, cd6, rfl, HP6.out _ ⟨by simp; omega, fun k h1 h2 => ?_⟩, set4_bel HB8.out⟩
            simp only [World.size_alloc] at h1
            have n1 : k ≠ w.heap.size := by omega
            rw [heap_setCell_other _ _ _ _ n1, heap_setCell_other _ _ _ _ n1, heap_setCell_other _ _ _ _ n1, heap_setCell_other _ _ _ _ n1, HB88.out.block k (by simp; omega), heap_alloc_old _ _ h2]
          · have hv2 : validB p = false := by simpa using hv
            rw [hv2] at HV
            have HN2 : Hid (ans l = .arg) := Lib.hid (by rw [HN.out, if_neg hv])
            clear hv hv2
            go_wp2_with fail
            refine HV.out.mono ?_
            rintro e1 w8 ⟨rfl, hb8⟩
            have hb8s := hb8.size
            simp only [World.size_alloc] at hb8s
            have hx8 := (hb8.block w.heap.size (by simp; omega)).trans HX7.out
            have HX8 := Lib.hid hx8
            have HB8 := Lib.hid (HB7.out.trans (hb8.mono (by simp; omega)))
            clear c0 c1 c2 c3 z0 z1 z2 z3 d0' d1' d2' d3' hx8 hb8
            obtain ⟨⟨c0, c1, c2, c3⟩, z0, z1, z2, z3⟩ := cells4 HX8.out
            go_wp2
            rw [HN2.out]
            refine bodyPost_ret (res_cell_tmp rfl _ _ w.heap.size (.slice none 0 0) (.slice none 0 0) (.slice none 0 0) (.int .i64 0) rfl (blk4 HX8.out)) rfl ⟨rfl, set4_bel HB8.out⟩
    have HN : Hid (ans l = .sum) := Lib.hid (by rw [HA.out, if_pos (by simpa using ea)])
    have HEA := Lib.hid ea
    clear ea
    have nei : ∀ x d : UInt8, ¬ x = d → ¬ (x.toNat : Int) = (d.toNat : Int) := fun x d hn h => hn (UInt8.toNat_inj.1 (by omega))
    by_cases e0 : x0 = d0
    · subst e0
      by_cases e1 : x1 = d1
      · subst e1
        by_cases e2 : x2 = d2
        · subst e2
          have ne3 := nei x3 d3 fun h => HEA.out ⟨rfl, rfl, rfl, h⟩
          clear nei
          go_enter Try.func27, Try.ntmps27
          go_wp2_with fail
          refine HSU.out.mono ?_
          rintro e1 w1 ⟨rfl, rfl⟩
          obtain ⟨⟨c0, c1, c2, c3⟩, z0, z1, z2, z3⟩ := cells4 HZ.out
          go_wp2
          rw [HN.out]
          refine bodyPost_ret (res_cell_tmp rfl _ _ w.heap.size (.slice none 0 0) (.slice none 0 0) (.slice none 0 0) (.int .i64 0) rfl (by simpa using HZ.out)) rfl ⟨rfl, by simpa using HB0.out⟩
        · have ne2 := nei x2 d2 e2
          clear nei e2
          go_enter Try.func27, Try.ntmps27
          go_wp2_with fail
          refine HSU.out.mono ?_
          rintro e1 w1 ⟨rfl, rfl⟩
          obtain ⟨⟨c0, c1, c2, c3⟩, z0, z1, z2, z3⟩ := cells4 HZ.out
          go_wp2
          rw [HN.out]
          refine bodyPost_ret (res_cell_tmp rfl _ _ w.heap.size (.slice none 0 0) (.slice none 0 0) (.slice none 0 0) (.int .i64 0) rfl (by simpa using HZ.out)) rfl ⟨rfl, by simpa using HB0.out⟩
      · have ne1 := nei x1 d1 e1
        clear nei e1
        go_enter Try.func27, Try.ntmps27
        go_wp2_with fail
        refine HSU.out.mono ?_
        rintro e1 w1 ⟨rfl, rfl⟩
        obtain ⟨⟨c0, c1, c2, c3⟩, z0, z1, z2, z3⟩ := cells4 HZ.out
        go_wp2
        rw [HN.out]
        refine bodyPost_ret (res_cell_tmp rfl _ _ w.heap.size (.slice none 0 0) (.slice none 0 0) (.slice none 0 0) (.int .i64 0) rfl (by simpa using HZ.out)) rfl ⟨rfl, by simpa using HB0.out⟩
    · have ne0 := nei x0 d0 e0
      clear nei e0
      go_enter Try.func27, Try.ntmps27
      go_wp2_with fail
      refine HSU.out.mono ?_
      rintro e1 w1 ⟨rfl, rfl⟩
      obtain ⟨⟨c0, c1, c2, c3⟩, z0, z1, z2, z3⟩ := cells4 HZ.out
      go_wp2
      rw [HN.out]
      refine bodyPost_ret (res_cell_tmp rfl _ _ w.heap.size (.slice none 0 0) (.slice none 0 0) (.slice none 0 0) (.int .i64 0) rfl (by simpa using HZ.out)) rfl ⟨rfl, by simpa using HB0.out⟩
  · have hTn : ¬ T = ⟨#[105, 108, 118, 49]⟩ := fun e => hmark (str_inj (m := C.mark) (by rw [hT, e]; rfl))
    have HN : Hid (ans l = .form) := Lib.hid (by unfold ans; rw [if_pos (.inr hmark)])
    have hq : ¬ T.toList = (⟨#[105, 108, 118, 49]⟩ : ByteArray).toList := fun h => hTn (toList_inj' h)
    have ht : (⟨#[105, 108, 118, 49]⟩ : ByteArray).toList = [105, 108, 118, 49] := by decide +kernel
    rw [ht] at hq
    have hq2 : (T.toList == [105, 108, 118, 49]) = false := by simpa using hq
    clear ht hTn
    clear hmark hr hh hT he hR0 hb0
    obtain ⟨⟨c0, c1, c2, c3⟩, z0, z1, z2, z3⟩ := cells4 HZ.out
    go_enter Try.func27, Try.ntmps27
    go_wp2
    rw [HN.out]
    refine bodyPost_ret (res_cell_tmp rfl _ _ w.heap.size (.slice none 0 0) (.slice none 0 0) (.slice none 0 0) (.int .i64 0) rfl (by simpa using HZ.out)) rfl ⟨rfl, by simpa using HB0.out⟩
theorem qdec_any (w : World) (A : Option Addr) (l : Bs) (cap : Nat) (hc : l.length ≤ cap) (hm : cap ≤ maxLen) (hr : Row 1 (ByAt w) A l) (hl0 : l.length ≤ 1100000) :
    Calls Try.prog 27 #[.slice A l.length cap] w (AGives w (ans l)) := by
  by_cases hs : l.length < 8
  · refine (qdec_short w A l cap hs).mono fun e w' h => ?_
    have : ans l = .form := by unfold ans; rw [if_pos (.inl hs)]
    rw [this]; exact h
  · exact qdec_long w A l cap hc hm hr (by omega) hl0
end Go.Proofs.Ytlkaeonedijfpaa

namespace Go.Proofs.Ytlkaeonedijfpaa
open Go.RowKit C
def resP : Ans → Pg | .ok p => p | _ => noP
def resC : Ans → Int | .ok _ => 0 | .form => 8 | .sum => 9 | .arg => 1
theorem resC_i (a : Ans) : 0 ≤ resC a ∧ resC a ≤ 9 := by cases a <;> simp [resC]
theorem AGives.res {w w' : World} {a : Ans} {e : Ending} (h : AGives w a e w') : ∃ A B D ca cb cd, e = .returned (.tuple #[pv (resP a) A B D ca cb cd, .int .i64 (resC a)]) ∧ PgAt w' (resP a) A B D ca cb cd ∧ Below w.heap.size w w' := by
  cases a with
  | ok p => exact h
  | form => exact ⟨none, none, none, 0, 0, 0, h.1, no_at _, h.2⟩
  | sum => exact ⟨none, none, none, 0, 0, 0, h.1, no_at _, h.2⟩
  | arg => exact ⟨none, none, none, 0, 0, 0, h.1, no_at _, h.2⟩
set_option maxRecDepth 100000 in
set_option maxHeartbeats 8000000 in
theorem decoded_any (A : Option Addr) (l : Bs) (cap : Nat) (w : World) (hl : l.length ≤ 1048584) (hcap : l.length ≤ cap) (hmx : cap ≤ maxLen) (hr : Row 1 (ByAt w) A l) :
    Calls Try.prog 17 #[.slice A l.length cap] w fun e w' => e = .returned (.bool true) ∧ Below w.heap.size w w' := by
  obtain ⟨i0, hi, hz0, hz1, hz2⟩ := info_parts infoB
  have HR := Lib.hid hr
  have HRN : Hid (0 < l.length → ∃ ad, A = some ad ∧ ∀ j u, (l.map u8v)[j]? = some u → (w.alloc (.cells #[] 5)).cell? (ad.add j) = some u) := Lib.hid fun h => news_bytes (hr.imp fun x g o q => q.below (below1 w (.cells #[] 5))) h
  have HOE : Hid ((w.alloc (.cells #[] 5)).ownsRow w.heap.size 5 1 (.slice (some ⟨w.heap.size, 0, none⟩) 0 0) 0 []) := Lib.hid (own_e (heap_alloc_new w (.cells #[] 5)) (Nat.le_refl _))
  obtain ⟨q, hq⟩ : ∃ q, resP (ans l) = q := ⟨_, rfl⟩
  obtain ⟨c, hc⟩ : ∃ c, resC (ans l) = c := ⟨_, rfl⟩
  have HQ := Lib.hid hq
  have HCC := Lib.hid hc
  clear hr hq hc
  go_enter Try.func17, Try.ntmps17
  go_wp2_with (at_builtin; refine wpList_append_e _ rfl _ _ _ rfl w.heap.size 5 i0 _ 1 1 Try.underlying22 hi hz0 hz1 hz2 rfl (by omega) w.heap.size rfl HOE.out A l.length cap (l.map u8v) rfl (by simp) HRN.out (u8_one l) (by unfold maxLen; omega) (by omega) (by simp) (w.heap.size + 1) (by simp) ?_; intro g3 cap3 w3 hown3 hgr3 hat3 hlt3)
  have ho3 : OwnB w.heap.size w3 (.slice (some ⟨g3, 0, none⟩) l.length cap3) l := hown3
  obtain ⟨A3, k3, hAe, hc3, hm3, hr3⟩ := ho3.row
  injection hAe with hAe1 _ hAe2
  subst hAe1
  subst hAe2
  have HB3 : Hid (Below w.heap.size w w3) := Lib.hid ((below1 w (.cells #[] 5)).grown hgr3 (by simp) (fun k hk => by cases hk; omega))
  have HDD := Lib.hid ((odec_any w3 (some ⟨g3, 0, none⟩) l cap3 hc3 hm3 hr3 (by omega)).mono fun e w' h => AGives.res h)
  rw [HQ.out, HCC.out] at HDD
  clear ho3 hc3 hm3 hr3 hown3 hgr3 hat3
  go_wp2_with fail
  refine HDD.out.mono ?_
  rintro e w4 ⟨A4, B4, D4, a4, b4, d4, rfl, hp4, hb4⟩
  have HB4 := Lib.hid (bel_step HB3.out hb4)
  have HY := Lib.hid (heap_alloc_new w4 (oPg q A4 B4 D4 a4 b4 d4))
  have hb5 := below1 w4 (oPg q A4 B4 D4 a4 b4 d4)
  have HB5 := Lib.hid (bel_step HB4.out hb5)
  have HP5 := Lib.hid (hp4.below hb5)
  have HD2 := Lib.hid ((qdec_any (w4.alloc (oPg q A4 B4 D4 a4 b4 d4)) A l cap hcap hmx (HR.out.imp fun x g o q => q.below HB5.out) (by omega)).mono fun e w' h => AGives.res h)
  rw [HQ.out, HCC.out] at HD2
  clear hp4 hb4 hb5 HDD
  go_wp2_with fail
  refine HD2.out.mono ?_
  rintro e w6 ⟨A6, B6, D6, a6, b6, d6, rfl, hp6, hb6⟩
  have HB6 := Lib.hid (bel_step HB5.out hb6)
  have hb7 := below1 w6 (oPg q A6 B6 D6 a6 b6 d6)
  have HB7 := Lib.hid (bel_step HB6.out hb7)
  have HP7 := Lib.hid ((HP5.out.below hb6).below hb7)
  have HQ7 := Lib.hid (hp6.below hb7)
  have HX7 := Lib.hid (heap_alloc_new w6 (oPg q A6 B6 D6 a6 b6 d6))
  have hs6 := hb6.size
  rw [World.size_alloc] at hs6
  have HY7 := Lib.hid ((hb7.block w4.heap.size (by omega)).trans ((hb6.block w4.heap.size (by simp)).trans HY.out))
  have HEQ := requal_any q A4 B4 D4 a4 b4 d4 q A6 B6 D6 a6 b6 d6 _ HP7.out HQ7.out
  rw [decide_eq_true rfl] at HEQ
  have HE := Lib.hid HEQ
  clear hp6 hb6 hb7 HEQ HD2
  obtain ⟨⟨c0, c1, c2, c3⟩, _⟩ := cells4 HX7.out
  obtain ⟨⟨d0, d1, d2, d3⟩, _⟩ := cells4 HY7.out
  go_wp2_with fail
  refine HE.out.mono ?_
  rintro e w8 ⟨rfl, hb8⟩
  have HB8 := Lib.hid (bel_step HB7.out hb8)
  clear hb8
  go_wp2
  go_ret
  exact ⟨rfl, HB8.out⟩
set_option maxRecDepth 100000 in
set_option maxHeartbeats 8000000 in
theorem law_ObjectDecode (A : Option Addr) (l : Bs) (cap : Nat) (w : World) (hl : l.length ≤ 1048576) (hcap : l.length ≤ cap) (hmx : cap ≤ maxLen) (hr : Row 1 (ByAt w) A l) :
    Calls Try.prog 5 #[.slice A l.length cap] w fun e w' => e = .returned (.bool true) ∧ Below w.heap.size w w' := by
  have HW : Hid (∀ V, Calls Try.prog 11 #[] V fun e w' => e = .returned (.bool true) ∧ Below V.heap.size V w') := Lib.hid awake_any
  have HR := Lib.hid hr
  clear hr
  go_enter Try.func5, Try.ntmps5
  go_wp2_with fail
  refine (HW.out _).mono ?_
  rintro e w1 ⟨rfl, hb1⟩
  have HB1 := Lib.hid hb1
  have HD := Lib.hid (decoded_any A l cap w1 (by omega) hcap hmx (HR.out.imp fun x g o q => q.below hb1))
  clear hb1
  go_wp2_with fail
  refine HD.out.mono ?_
  rintro e w2 ⟨rfl, hb2⟩
  have HB2 := Lib.hid (bel_step HB1.out hb2)
  clear hb2
  go_wp2
  go_ret
  exact ⟨rfl, HB2.out⟩
set_option maxRecDepth 100000 in
set_option maxHeartbeats 8000000 in
theorem law_ObjectSealed (A : Option Addr) (l : Bs) (cap : Nat) (w : World) (hl : l.length ≤ 1048576) (hr : Row 1 (ByAt w) A l) :
    Calls Try.prog 6 #[.slice A l.length cap] w fun e w' => e = .returned (.bool true) ∧ Below w.heap.size w w' := by
  have HW : Hid (∀ V, Calls Try.prog 11 #[] V fun e w' => e = .returned (.bool true) ∧ Below V.heap.size V w') := Lib.hid awake_any
  have HR := Lib.hid hr
  obtain ⟨M, hM⟩ : ∃ M, C.mark ++ l ++ sumE (sumF (C.mark ++ l)) = M := ⟨_, rfl⟩
  have hml : M.length ≤ 1048584 := by
    rw [← hM, List.length_append, List.length_append, sumE_len]
    have : C.mark.length = 4 := rfl
    omega
  have HM := Lib.hid hM
  clear hr hM
  go_enter Try.func6, Try.ntmps6
  go_wp2_with fail
  refine (HW.out _).mono ?_
  rintro e w1 ⟨rfl, hb1⟩
  have HB1 := Lib.hid hb1
  have hS := sealed_any A l cap w1 hl (HR.out.imp fun x g o q => q.below hb1)
  rw [HM.out] at hS
  have HS := Lib.hid hS
  clear hb1 hS
  go_wp2_with fail
  refine HS.out.mono ?_
  rintro e w2 ⟨v, rfl, ho, hb2⟩
  have HB2 := Lib.hid (bel_step HB1.out hb2)
  obtain ⟨AA, kk, rfl, hc, hm, hr2⟩ := ho.row
  have HD := Lib.hid (decoded_any AA M kk w2 hml hc hm hr2)
  clear ho hb2 hr2
  go_wp2_with fail
  refine HD.out.mono ?_
  rintro e w3 ⟨rfl, hb3⟩
  have HB3 := Lib.hid (bel_step HB2.out hb3)
  clear hb3
  go_wp2
  go_ret
  exact ⟨rfl, HB3.out⟩
end Go.Proofs.Ytlkaeonedijfpaa
