/-
  The walk of the specification's Valid.
-/
import Derived.Test.YticbcnhbpbaocaaGreatDoorRK
set_option linter.all false
namespace Go.Proofs.YticbcnhbpbaocaaGreatDoor
open Go.RowKit T T.Fo
theorem vaq (nu po tk rf up : Int) (tn tx : ByteArray) (F : Fo) : validT nmv ⟨1, tx, nu, po, tk, tn, rf, up⟩ F = ((tx.data.toList == []) && true && allB (deOk nmv) F && decide (F.dep + 1 ≤ 50)) := by
  unfold validT
  rw [permT_dep, okT_of nmv (l := List.replicate F.len declT) rfl, fitv_rep]
  rfl
theorem va_kind {h : Hd} (e : ¬ h.kind = 1) (F : Fo) : validT nmv h F = false := by unfold validT; simp [e]
set_option maxRecDepth 100000 in
set_option maxHeartbeats 4000000 in
theorem rv_no (h : Hd) (A : Option Addr) (cap : Nat) (k : Fo) (w : World) (e : ¬ h.kind = 1) : CB' 14 w (nv h A k.len cap) (validT nmv h k) := by
  have HX : Hid (validT nmv h k = false) := Lib.hid (va_kind e k)
  have k1 : (h.kind == 1) = false := by simpa using e
  have k1' : (h.kind != 1) = true := by simpa using e
  obtain ⟨n, hn⟩ : ∃ n, k.len = n := ⟨_, rfl⟩
  rw [hn]
  clear hn e
  go_enter Tryz.func14, Tryz.ntmps14
  go_wp2
  go_ret
  exact ⟨ret_bool HX.out.symm, b1 _ _⟩
set_option maxRecDepth 100000 in
set_option maxHeartbeats 4000000 in
theorem rv_text (nu po tk rf up : Int) (tn : ByteArray) (tx : ByteArray) (A : Option Addr) (cap : Nat) (k : Fo) (w : World) (HT : Hid ((tx.data.toList == []) = false)) (t1 : (tx.toList == []) = false) (t2 : tx.toList.isEmpty = false) : CB' 14 w (.agg #[.int .i64 1, .string tx, .int .i64 nu, .int .i64 po, .slice A k.len cap, .int .i64 tk, .string tn, .int .i64 rf, .int .i64 up]) (validT nmv ⟨1, tx, nu, po, tk, tn, rf, up⟩ k) := by
  have HX : Hid (validT nmv ⟨1, tx, nu, po, tk, tn, rf, up⟩ k = false) := Lib.hid (by rw [vaq, HT.out]; rfl)
  obtain ⟨n, hn⟩ : ∃ n, k.len = n := ⟨_, rfl⟩
  rw [hn]
  clear hn
  go_enter Tryz.func14, Tryz.ntmps14
  go_wp2
  go_ret
  exact ⟨ret_bool HX.out.symm, b1 _ _⟩
set_option maxRecDepth 100000 in
set_option maxHeartbeats 4000000 in
theorem rv_deep (nu po tk rf up : Int) (tn : ByteArray) (A : Option Addr) (cap : Nat) (k : Fo) (w : World) (m : Nat) (hm : k.dep + 1 = m) (h50 : 50 < m) (hD : ∀ V, Below w.heap.size w V → Calls Tryz.prog 29 #[nv ⟨1, ⟨#[]⟩, nu, po, tk, tn, rf, up⟩ A k.len cap] V fun e w' => e = .returned (.int .i64 (m : Int)) ∧ Below V.heap.size V w') : CB' 14 w (.agg #[.int .i64 1, .string ⟨#[]⟩, .int .i64 nu, .int .i64 po, .slice A k.len cap, .int .i64 tk, .string tn, .int .i64 rf, .int .i64 up]) (validT nmv ⟨1, ⟨#[]⟩, nu, po, tk, tn, rf, up⟩ k) := by
  have HX : Hid (validT nmv ⟨1, ⟨#[]⟩, nu, po, tk, tn, rf, up⟩ k = false) := Lib.hid (by rw [vaq, hm, decide_eq_false (by omega : ¬ m ≤ 50), Bool.and_false])
  obtain ⟨n, hn⟩ : ∃ n, k.len = n := ⟨_, rfl⟩
  rw [hn] at hD
  rw [hn]
  have HD : Hid (∀ V, Below w.heap.size w V → Calls Tryz.prog 29 #[.agg #[.int .i64 1, .string ⟨#[]⟩, .int .i64 nu, .int .i64 po, .slice A n cap, .int .i64 tk, .string tn, .int .i64 rf, .int .i64 up]] V fun e w' => e = .returned (.int .i64 (m : Int)) ∧ Below V.heap.size V w') := Lib.hid hD
  have HB0 : Hid (Below w.heap.size w (w.alloc (.cells #[.int .i64 1, .string ⟨#[]⟩, .int .i64 nu, .int .i64 po, .slice A n cap, .int .i64 tk, .string tn, .int .i64 rf, .int .i64 up] 26))) := Lib.hid (b1 w _)
  have HZ0 : Hid (w.heap.size < (w.alloc (.cells #[.int .i64 1, .string ⟨#[]⟩, .int .i64 nu, .int .i64 po, .slice A n cap, .int .i64 tk, .string tn, .int .i64 rf, .int .i64 up] 26)).heap.size) := Lib.hid (by simp)
  clear hn hm hD
  go_enter Tryz.func14, Tryz.ntmps14
  go_wp2_with fail
  refine (HD.out _ HB0.out).mono ?_
  rintro e V1 ⟨rfl, hb⟩
  have HB1 := Lib.hid (HB0.out.trans (hb.mono HB0.out.size))
  obtain ⟨hc1, hf1⟩ := bcell hb
  have hz1 : w.heap.size < V1.heap.size := by have := hb.size; have := HZ0.out; omega
  have HZ1 := Lib.hid hz1
  clear hb
  go_wp2
  go_ret
  exact ⟨ret_bool HX.out.symm, HB1.out⟩
set_option maxRecDepth 100000 in
set_option maxHeartbeats 4000000 in
theorem rv_go (nu po tk rf up : Int) (tn : ByteArray) (A : Option Addr) (cap : Nat) (F : Fo) (w : World) (m : Nat) (hm : F.dep + 1 = m) (h50 : ¬ 50 < m) (hfl : F.len ≤ 1048576) (hk : Kids (Lt w.heap.size) w A F) (hD : ∀ V, Below w.heap.size w V → Calls Tryz.prog 29 #[nv ⟨1, ⟨#[]⟩, nu, po, tk, tn, rf, up⟩ A F.len cap] V fun e w' => e = .returned (.int .i64 (m : Int)) ∧ Below V.heap.size V w') (hC : F.All Ok) : CB' 14 w (.agg #[.int .i64 1, .string ⟨#[]⟩, .int .i64 nu, .int .i64 po, .slice A F.len cap, .int .i64 tk, .string tn, .int .i64 rf, .int .i64 up]) (validT nmv ⟨1, ⟨#[]⟩, nu, po, tk, tn, rf, up⟩ F) := by
  have HX : Hid (validT nmv ⟨1, ⟨#[]⟩, nu, po, tk, tn, rf, up⟩ F = allB (deOk nmv) F) := Lib.hid (by rw [vaq, hm, decide_eq_true (by omega : m ≤ 50), Bool.and_true]; rfl)
  have HD : Hid (∀ V, Below w.heap.size w V → Calls Tryz.prog 29 #[.agg #[.int .i64 1, .string ⟨#[]⟩, .int .i64 nu, .int .i64 po, .slice A F.len cap, .int .i64 tk, .string tn, .int .i64 rf, .int .i64 up]] V fun e w' => e = .returned (.int .i64 (m : Int)) ∧ Below V.heap.size V w') := Lib.hid hD
  have HS := Lib.hid (Rest.start hk)
  have HE := Lib.hid hC
  have HB0 : Hid (Below w.heap.size w (w.alloc (.cells #[.int .i64 1, .string ⟨#[]⟩, .int .i64 nu, .int .i64 po, .slice A F.len cap, .int .i64 tk, .string tn, .int .i64 rf, .int .i64 up] 26))) := Lib.hid (b1 w _)
  have HZ0 : Hid (w.heap.size < (w.alloc (.cells #[.int .i64 1, .string ⟨#[]⟩, .int .i64 nu, .int .i64 po, .slice A F.len cap, .int .i64 tk, .string tn, .int .i64 rf, .int .i64 up] 26)).heap.size) := Lib.hid (by simp)
  have hn4 := heap_alloc_new w (.cells #[.int .i64 1, .string ⟨#[]⟩, .int .i64 nu, .int .i64 po, .slice A F.len cap, .int .i64 tk, .string tn, .int .i64 rf, .int .i64 up] 26)
  have H4 : Hid ((w.alloc (.cells #[.int .i64 1, .string ⟨#[]⟩, .int .i64 nu, .int .i64 po, .slice A F.len cap, .int .i64 tk, .string tn, .int .i64 rf, .int .i64 up] 26)).cell? ⟨w.heap.size, 4, none⟩ = some (.slice A F.len cap)) := Lib.hid (by simp only [World.cell?, hn4]; rfl)
  clear hk hC hn4 hD hm
  go_enter Tryz.func14, Tryz.ntmps14
  go_wp2_with fail
  refine (HD.out _ HB0.out).mono ?_
  rintro e V1 ⟨rfl, hb⟩
  have HB1 := Lib.hid (HB0.out.trans (hb.mono HB0.out.size))
  obtain ⟨hc1, hf1⟩ := bcell hb
  have hz1 : w.heap.size < V1.heap.size := by have := hb.size; have := HZ0.out; omega
  have HZ1 := Lib.hid hz1
  have H41 := Lib.hid ((hb.cell (p := ⟨w.heap.size, 4, none⟩) HZ0.out).trans H4.out)
  clear hb
  clear hc1 hf1 hz1 HD
  go_wp2
  go_loopw [3] (fun ix wr => ∃ (i : Nat) (R : Fo), ix = .int .i64 (i : Int) ∧ Rest (Lt w.heap.size) w A F i R ∧ (allB (deOk nmv) F = allB (deOk nmv) R) ∧ R.All Ok ∧ Below w.heap.size w wr ∧ w.heap.size < wr.heap.size ∧ wr.cell? ⟨w.heap.size, 4, none⟩ = some (.slice A F.len cap)) (fun ix _ => F.len - (intOf ix).toNat)
  case atStart => exact ⟨0, F, rfl, HS.out, rfl, HE.out, HB1.out, HZ1.out, H41.out⟩
  case round =>
    obtain ⟨i, R, rfl, hr, hq, hP, hb, hz, h4⟩ := hrel
    have HQ := Lib.hid hq
    have HB := Lib.hid hb
    clear HS HE hq
    cases R with
    | nil =>
      have hi := hr.stop
      subst hi
      clear hr hP hb
      go_wp2
      go_ret
      exact ⟨ret_bool (by rw [HX.out, HQ.out]; rfl), HB.out⟩
    | cons h' k' r =>
      obtain ⟨g, o, A', cap', rfl, ⟨c0, c1, c2, c3, c4, c5, c6, c7, c8⟩, hkc, hk', _, hi1, hg⟩ := (hr.below hb (Nat.le_refl _)).next
      obtain ⟨p1, p2⟩ := hP
      have HC : Hid (CB' 30 wr (nv h' A' k'.len cap') (deOk nmv h' k')) := Lib.hid (de_any h' k' A' cap' wr p1 (hk'.mono hb.size))
      have HP2 := Lib.hid p2
      have HR2 := Lib.hid hr.tail
      obtain ⟨v, hv⟩ : ∃ v, deOk nmv h' k' = v := ⟨_, rfl⟩
      have HV := Lib.hid hv
      rw [hv] at HC
      obtain ⟨l, hl⟩ : ∃ l, k'.len = l := ⟨_, rfl⟩
      rw [hl] at HC c4
      have hj : (i : Int) < (F.len : Int) := by omega
      have hj0 : (0 : Int) ≤ (i : Int) := by omega
      clear hr hb hk' hkc hg p1 p2 hv hl
      go_wp2_with fail
      refine HC.out.mono ?_
      rintro e V ⟨rfl, hb⟩
      have HB2 := Lib.hid (HB.out.trans (hb.mono HB.out.size))
      have HZ2 : Hid (w.heap.size < V.heap.size) := Lib.hid (Nat.lt_of_lt_of_le hz hb.size)
      have H42 := Lib.hid ((hb.cell (p := ⟨w.heap.size, 4, none⟩) hz).trans h4)
      clear hb c0 c1 c2 c3 c4 c5 c6 c7 c8
      cases v with
      | true =>
        go_wp2_with fail
        go_roundw
        case rel => exact ⟨i + 1, r, by go_num, HR2.out, by rw [HQ.out]; show (deOk nmv h' k' && _) = _; rw [HV.out]; rfl, HP2.out, HB2.out, HZ2.out, H42.out⟩
        case measure => simp [intOf]; omega
      | false =>
        go_wp2
        go_ret
        exact ⟨ret_bool (by rw [HX.out, HQ.out]; show _ = (deOk nmv h' k' && _); rw [HV.out]; rfl), HB2.out⟩
theorem ok_all {h : Hd} : ∀ F : Fo, Ok h F → F.All Ok := by
  intro F
  induction F with
  | nil => intro _; trivial
  | cons h' k' r _ ih =>
    intro hO
    obtain ⟨o1, o2⟩ := hO.kid
    exact ⟨o1, ih o2⟩
theorem rvalid_any (h : Hd) (F : Fo) (A : Option Addr) (cap : Nat) (w : World) (hO : Ok h F) (hk : Kids (Lt w.heap.size) w A F) : CB' 14 w (nv h A F.len cap) (validT nmv h F) := by
  by_cases e : h.kind = 1
  · have hD : ∀ V, Below w.heap.size w V → Calls Tryz.prog 29 #[nv h A F.len cap] V fun e w' => e = .returned (.int .i64 ((F.dep + 1 : Nat) : Int)) ∧ Below V.heap.size V w' := fun V hV => depth_any h F A cap V (F.dep + 1) (kids_at' hk hV) rfl hO.2.2
    have hfl : F.len ≤ 1048576 := Nat.le_trans F.len_le_cnt hO.2.2
    obtain ⟨kd, tx, nu, po, tk, tn, rf, up⟩ := h
    obtain rfl : kd = 1 := e
    by_cases ht : tx.toList = []
    · obtain rfl := ba_nil ht
      by_cases h50 : 50 < F.dep + 1
      · exact rv_deep nu po tk rf up tn A cap F w _ rfl h50 hD
      · exact rv_go nu po tk rf up tn A cap F w _ rfl h50 hfl hk hD (ok_all F hO)
    · obtain ⟨t0, t1, t2⟩ := nemp ht
      exact rv_text nu po tk rf up tn tx A cap F w (Lib.hid t0) t1 t2
  · exact rv_no h A cap F w e
end Go.Proofs.YticbcnhbpbaocaaGreatDoor
