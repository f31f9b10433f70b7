/-
  The walks of the specification's isVar, isIf, isComm.
-/
import Derived.Test.YticbcnhbpbaocaaGreatDoorRE
set_option linter.all false
namespace Go.Proofs.YticbcnhbpbaocaaGreatDoor
open Go.RowKit T T.Fo
theorem oeq (h : Hd) (k : Fo) : ((h.kind == 9 || exprK h.kind) && okT nmv h k) = (noOk nmv h k || exOk nmv h k) := by
  unfold noOk exOk
  by_cases e : h.kind = 9 <;> simp [e] <;> cases okT nmv h k <;> simp [e]
theorem oeq' : (fun h k => opt isE h k && okT nmv h k) = fun h k => (noOk nmv h k || exOk nmv h k) := by funext h k; exact oeq h k
theorem kd6 (nu po tk rf up : Int) (tn tx : ByteArray) (k : Fo) : kdOk nmv 6 ⟨6, tx, nu, po, tk, tn, rf, up⟩ k = (nmv tx && true && two2 (tyOk nmv) (fun h k => (noOk nmv h k || exOk nmv h k)) k) := by
  rw [kdq 6 (l := [isT, opt isE]) rfl rfl rfl rfl, fitv_two, oeq']; rfl
theorem eeq (h : Hd) (k : Fo) : (opt (T.one [10, 18]) h k && okT nmv h k) = (kdOk nmv 10 h k || (kdOk nmv 18 h k || noOk nmv h k)) := by
  unfold opt T.one kdOk noOk
  by_cases e : h.kind = 9
  · simp [e]
  · by_cases e10 : h.kind = 10
    · simp [e10]
    · by_cases e18 : h.kind = 18 <;> simp [e, e10, e18]
theorem eeq' : (fun h k => opt (T.one [10, 18]) h k && okT nmv h k) = fun h k => (kdOk nmv 10 h k || (kdOk nmv 18 h k || noOk nmv h k)) := by funext h k; exact eeq h k
theorem kd18 (nu po tk rf up : Int) (tn tx : ByteArray) (k : Fo) : kdOk nmv 18 ⟨18, tx, nu, po, tk, tn, rf, up⟩ k = ((tx.data.toList == []) && true && thr3 (exOk nmv) (kdOk nmv 10) (fun h k => (kdOk nmv 10 h k || (kdOk nmv 18 h k || noOk nmv h k))) k) := by
  rw [kdq 18 (l := [isE, T.one [10], opt (T.one [10, 18])]) rfl rfl rfl rfl, fitv_thr, one_kd, eeq']; rfl
set_option maxRecDepth 100000 in
set_option maxHeartbeats 4000000 in
theorem va_y (nu po tk rf up : Int) (tn : ByteArray) (tx : ByteArray) (A : Option Addr) (cap : Nat) (k : Fo) (w : World) (HN : Hid (∀ W, Calls Tryz.prog 45 #[.string tx] W fun e w' => e = .returned (.bool true) ∧ W = w')) (hnm : nmv tx = true) (hl : k.len = 2) (hk : Kids (Lt w.heap.size) w A k) (hT : ∀ h0 k0 h1 k1, k = .cons h0 k0 (.cons h1 k1 .nil) → h0.text.size ≤ maxLen ∧ ∀ A1 c1, Kids (Lt w.heap.size) w A1 k1 → At 67 w (nv h1 A1 k1.len c1) (exOk nmv h1 k1)) : CB' 47 w (.agg #[.int .i64 6, .string tx, .int .i64 nu, .int .i64 po, .slice A k.len cap, .int .i64 tk, .string tn, .int .i64 rf, .int .i64 up]) (kdOk nmv 6 ⟨6, tx, nu, po, tk, tn, rf, up⟩ k) := by
  obtain ⟨h0, k0, h1, k1, rfl⟩ := is2 hl
  obtain ⟨g, o, A0, c0, A1, c1, rfl, ⟨d0, d1, d2, d3, d4, d5, d6, d7, d8⟩, hk0, ⟨p0, p1, p2, p3, p4, p5, p6, p7, p8⟩, hk1, hg⟩ := kid2 hk
  obtain ⟨hm0, hE⟩ := hT h0 k0 h1 k1 rfl
  have HT : Hid (∀ V, Below w.heap.size w V → CB' 49 V (nv h0 A0 k0.len c0) (tyOk nmv h0 k0)) := Lib.hid fun V _ => rIsType_any h0 k0 A0 c0 V hm0
  have HO : Hid (∀ V, Below w.heap.size w V → CB' 48 V (nv h1 A1 k1.len c1) (noOk nmv h1 k1)) := Lib.hid fun V _ => isNone_any h1 k1 A1 c1 V
  have HE := Lib.hid (hE A1 c1 hk1)
  have HX := Lib.hid (kd6 nu po tk rf up tn tx (.cons h0 k0 (.cons h1 k1 .nil)))
  obtain ⟨a, ha⟩ : ∃ v, tyOk nmv h0 k0 = v := ⟨_, rfl⟩
  obtain ⟨b, hb⟩ : ∃ v, noOk nmv h1 k1 = v := ⟨_, rfl⟩
  obtain ⟨c, hc⟩ : ∃ v, exOk nmv h1 k1 = v := ⟨_, rfl⟩
  rw [hnm, Bool.true_and, Bool.true_and, show two2 (tyOk nmv) (fun h k => (noOk nmv h k || exOk nmv h k)) (.cons h0 k0 (.cons h1 k1 .nil)) = (tyOk nmv h0 k0 && (noOk nmv h1 k1 || exOk nmv h1 k1)) from rfl, ha, hb, hc] at HX
  rw [ha] at HT
  rw [hb] at HO
  rw [hc] at HE
  obtain ⟨n0, hn0⟩ : ∃ n, k0.len = n := ⟨_, rfl⟩
  obtain ⟨n1, hn1⟩ : ∃ n, k1.len = n := ⟨_, rfl⟩
  rw [hn0] at HT d4
  rw [hn1] at HO HE p4
  have hl2 : (Fo.cons h0 k0 (.cons h1 k1 .nil)).len = 2 := rfl
  rw [hl2]
  have hgn : ¬ g = w.heap.size := by omega
  have hg1 : g < w.heap.size + 1 := by omega
  have HB : Hid (Below w.heap.size w (w.alloc (.cells #[.int .i64 6, .string tx, .int .i64 nu, .int .i64 po, .slice (some ⟨g, o, none⟩) 2 cap, .int .i64 tk, .string tn, .int .i64 rf, .int .i64 up] 26))) := Lib.hid (b1 w _)
  have HZ : Hid (w.heap.size < (w.alloc (.cells #[.int .i64 6, .string tx, .int .i64 nu, .int .i64 po, .slice (some ⟨g, o, none⟩) 2 cap, .int .i64 tk, .string tn, .int .i64 rf, .int .i64 up] 26)).heap.size) := Lib.hid (by simp)
  clear ha hb hc hn0 hn1 hl2 hk hk0 hk1 hE hT hl hm0 hnm
  cases a <;> cases b <;>
  · go_enter Tryz.func47, Tryz.ntmps47
    go_wp2_with (first
      | (go_at_call 45; refine (HN.out _).mono ?_; rintro e w' ⟨rfl, rfl⟩)
      | (go_at_call 49; (with_reducible refine (HT.out _ HB.out).mono ?_); rintro e w' ⟨rfl, hb⟩; have HB := Lib.hid (HB.out.trans (hb.mono HB.out.size)); obtain ⟨hc, hf⟩ := bcell hb; have hz : w.heap.size < w'.heap.size := by { have h1 := HZ.out; have h2 := hb.size; omega }; have hgz : g < w'.heap.size := (by omega); have HZ := Lib.hid hz; clear hb)
      | (go_at_call 48; (with_reducible refine (HO.out _ HB.out).mono ?_); rintro e w' ⟨rfl, hb⟩; have HB := Lib.hid (HB.out.trans (hb.mono HB.out.size)); obtain ⟨hc, hf⟩ := bcell hb; have hz : w.heap.size < w'.heap.size := by { have h1 := HZ.out; have h2 := hb.size; omega }; have hgz : g < w'.heap.size := (by omega); have HZ := Lib.hid hz; clear hb)
      | (go_at_call 67; (with_reducible refine (HE.out _ HB.out).mono ?_); rintro e w' ⟨rfl, hb⟩; have HB := Lib.hid (HB.out.trans (hb.mono HB.out.size)); obtain ⟨hc, hf⟩ := bcell hb; have hz : w.heap.size < w'.heap.size := by { have h1 := HZ.out; have h2 := hb.size; omega }; have hgz : g < w'.heap.size := (by omega); have HZ := Lib.hid hz; clear hb))
    go_ret
    exact ⟨ret_bool (by rw [HX.out]; simp), HB.out⟩
set_option maxRecDepth 100000 in
set_option maxHeartbeats 4000000 in
theorem va_l (nu po tk rf up : Int) (tn : ByteArray) (tx : ByteArray) (A : Option Addr) (cap : Nat) (k : Fo) (w : World) (HN : Hid (∀ W, Calls Tryz.prog 45 #[.string tx] W fun e w' => e = .returned (.bool true) ∧ W = w')) (hl : ¬ k.len = 2) : CB' 47 w (.agg #[.int .i64 6, .string tx, .int .i64 nu, .int .i64 po, .slice A k.len cap, .int .i64 tk, .string tn, .int .i64 rf, .int .i64 up]) (kdOk nmv 6 ⟨6, tx, nu, po, tk, tn, rf, up⟩ k) := by
  have HX : Hid (kdOk nmv 6 ⟨6, tx, nu, po, tk, tn, rf, up⟩ k = false) := Lib.hid (by rw [kd6, two2_len hl, Bool.and_false])
  obtain ⟨n, hn⟩ : ∃ n, k.len = n := ⟨_, rfl⟩
  rw [hn] at hl
  have hne : ((n : Int) == 2) = false := by rw [ieq2]; simpa using hl
  rw [show CB' 47 w (.agg #[.int .i64 6, .string tx, .int .i64 nu, .int .i64 po, .slice A k.len cap, .int .i64 tk, .string tn, .int .i64 rf, .int .i64 up]) (kdOk nmv 6 ⟨6, tx, nu, po, tk, tn, rf, up⟩ k) = CB' 47 w (.agg #[.int .i64 6, .string tx, .int .i64 nu, .int .i64 po, .slice A n cap, .int .i64 tk, .string tn, .int .i64 rf, .int .i64 up]) (kdOk nmv 6 ⟨6, tx, nu, po, tk, tn, rf, up⟩ k) by rw [hn]]
  clear hl hn
  go_enter Tryz.func47, Tryz.ntmps47
  go_wp2_with (go_at_call 45; refine (HN.out _).mono ?_; rintro e w' ⟨rfl, rfl⟩)
  go_ret
  exact ⟨ret_bool HX.out.symm, b1 _ _⟩
set_option maxRecDepth 100000 in
set_option maxHeartbeats 4000000 in
theorem va_f (nu po tk rf up : Int) (tn : ByteArray) (tx : ByteArray) (A : Option Addr) (cap : Nat) (k : Fo) (w : World) (HN : Hid (∀ W, Calls Tryz.prog 45 #[.string tx] W fun e w' => e = .returned (.bool false) ∧ W = w')) (hnm : nmv tx = false) : CB' 47 w (.agg #[.int .i64 6, .string tx, .int .i64 nu, .int .i64 po, .slice A k.len cap, .int .i64 tk, .string tn, .int .i64 rf, .int .i64 up]) (kdOk nmv 6 ⟨6, tx, nu, po, tk, tn, rf, up⟩ k) := by
  have HX : Hid (kdOk nmv 6 ⟨6, tx, nu, po, tk, tn, rf, up⟩ k = false) := Lib.hid (by rw [kd6, hnm, Bool.false_and, Bool.false_and])
  obtain ⟨n, hn⟩ : ∃ n, k.len = n := ⟨_, rfl⟩
  rw [hn]
  clear hn hnm
  go_enter Tryz.func47, Tryz.ntmps47
  go_wp2_with (go_at_call 45; refine (HN.out _).mono ?_; rintro e w' ⟨rfl, rfl⟩)
  go_ret
  exact ⟨ret_bool HX.out.symm, b1 _ _⟩
set_option maxRecDepth 100000 in
set_option maxHeartbeats 4000000 in
theorem if_y (nu po tk rf up : Int) (tn : ByteArray) (A : Option Addr) (cap : Nat) (k : Fo) (w : World) (hl : k.len = 3) (hk : Kids (Lt w.heap.size) w A k) (hE : k.All CE) (hB : k.All CBl) (hI : k.All CI) : CB' 91 w (.agg #[.int .i64 18, .string ⟨#[]⟩, .int .i64 nu, .int .i64 po, .slice A k.len cap, .int .i64 tk, .string tn, .int .i64 rf, .int .i64 up]) (kdOk nmv 18 ⟨18, ⟨#[]⟩, nu, po, tk, tn, rf, up⟩ k) := by
  obtain ⟨h0, k0, h1, k1, h2, k2, rfl⟩ := is3 hl
  obtain ⟨g, o, A0, c0, A1, c1, A2, c2, rfl, ⟨d0, d1, d2, d3, d4, d5, d6, d7, d8⟩, hk0, ⟨p0, p1, p2, p3, p4, p5, p6, p7, p8⟩, hk1, ⟨q0, q1, q2, q3, q4, q5, q6, q7, q8⟩, hk2, hg⟩ := kid3 hk
  have HE := Lib.hid (CE.at (cap := c0) hE.1 hk0)
  have HBl := Lib.hid (CBl.at (cap := c1) hB.2.1 hk1)
  have HC := Lib.hid (CBl.at (cap := c2) hB.2.2.1 hk2)
  have HI := Lib.hid (CI.at (cap := c2) hI.2.2.1 hk2)
  have HO : Hid (∀ V, Below w.heap.size w V → CB' 48 V (nv h2 A2 k2.len c2) (noOk nmv h2 k2)) := Lib.hid fun V _ => isNone_any h2 k2 A2 c2 V
  have HX := Lib.hid (kd18 nu po tk rf up tn ⟨#[]⟩ (.cons h0 k0 (.cons h1 k1 (.cons h2 k2 .nil))))
  obtain ⟨a, ha⟩ : ∃ v, exOk nmv h0 k0 = v := ⟨_, rfl⟩
  obtain ⟨b, hb⟩ : ∃ v, kdOk nmv 10 h1 k1 = v := ⟨_, rfl⟩
  obtain ⟨c, hc⟩ : ∃ v, kdOk nmv 10 h2 k2 = v := ⟨_, rfl⟩
  obtain ⟨d, hd⟩ : ∃ v, kdOk nmv 18 h2 k2 = v := ⟨_, rfl⟩
  obtain ⟨f, hf⟩ : ∃ v, noOk nmv h2 k2 = v := ⟨_, rfl⟩
  rw [show ((⟨#[]⟩ : ByteArray).data.toList == []) = true from rfl, Bool.true_and, Bool.true_and, show thr3 (exOk nmv) (kdOk nmv 10) (fun h k => (kdOk nmv 10 h k || (kdOk nmv 18 h k || noOk nmv h k))) (.cons h0 k0 (.cons h1 k1 (.cons h2 k2 .nil))) = (exOk nmv h0 k0 && (kdOk nmv 10 h1 k1 && (kdOk nmv 10 h2 k2 || (kdOk nmv 18 h2 k2 || noOk nmv h2 k2)))) from rfl, ha, hb, hc, hd, hf] at HX
  rw [ha] at HE
  rw [hb] at HBl
  rw [hc] at HC
  rw [hd] at HI
  rw [hf] at HO
  obtain ⟨n0, hn0⟩ : ∃ n, k0.len = n := ⟨_, rfl⟩
  obtain ⟨n1, hn1⟩ : ∃ n, k1.len = n := ⟨_, rfl⟩
  obtain ⟨n2, hn2⟩ : ∃ n, k2.len = n := ⟨_, rfl⟩
  rw [hn0] at HE d4
  rw [hn1] at HBl p4
  rw [hn2] at HC HI HO q4
  have hl3 : (Fo.cons h0 k0 (.cons h1 k1 (.cons h2 k2 .nil))).len = 3 := rfl
  rw [hl3]
  have hgn : ¬ g = w.heap.size := by omega
  have hgn1 : ¬ g = w.heap.size + 1 := by omega
  have hg1 : g < w.heap.size + 1 := by omega
  have hg2 : g < w.heap.size + 1 + 1 := by omega
  have HB : Hid (Below w.heap.size w ((w.alloc (.cells #[.int .i64 18, .string ⟨#[]⟩, .int .i64 nu, .int .i64 po, .slice (some ⟨g, o, none⟩) 3 cap, .int .i64 tk, .string tn, .int .i64 rf, .int .i64 up] 26)).alloc (.cells #[.int .i64 h2.kind, .string h2.text, .int .i64 h2.num, .int .i64 h2.pos, .slice A2 n2 c2, .int .i64 h2.tk, .string h2.tn, .int .i64 h2.ref, .int .i64 h2.up] 26))) := Lib.hid ((b1 w _).alloc (by simp) _)
  have HZ : Hid (w.heap.size + 1 < ((w.alloc (.cells #[.int .i64 18, .string ⟨#[]⟩, .int .i64 nu, .int .i64 po, .slice (some ⟨g, o, none⟩) 3 cap, .int .i64 tk, .string tn, .int .i64 rf, .int .i64 up] 26)).alloc (.cells #[.int .i64 h2.kind, .string h2.text, .int .i64 h2.num, .int .i64 h2.pos, .slice A2 n2 c2, .int .i64 h2.tk, .string h2.tn, .int .i64 h2.ref, .int .i64 h2.up] 26)).heap.size) := Lib.hid (by simp)
  clear ha hb hc hd hf hn0 hn1 hn2 hl3 hk hk0 hk1 hk2 hE hB hI hl
  cases a <;> cases b <;> cases c <;> cases d <;>
  · go_enter Tryz.func91, Tryz.ntmps91
    go_wp2_with (first
      | (go_at_call 67; (with_reducible refine (HE.out _ HB.out).mono ?_); rintro e w' ⟨rfl, hb⟩; have HB := Lib.hid (HB.out.trans (hb.mono HB.out.size)); obtain ⟨hc, hf⟩ := bcell hb; have hz : w.heap.size + 1 < w'.heap.size := by { have h1 := HZ.out; have h2 := hb.size; omega }; have hz0 : w.heap.size < w'.heap.size := (by omega); have hgz : g < w'.heap.size := (by omega); have HZ := Lib.hid hz; clear hb)
      | (go_at_call 50; (with_reducible refine (HBl.out _ HB.out).mono ?_); rintro e w' ⟨rfl, hb⟩; have HB := Lib.hid (HB.out.trans (hb.mono HB.out.size)); obtain ⟨hc, hf⟩ := bcell hb; have hz : w.heap.size + 1 < w'.heap.size := by { have h1 := HZ.out; have h2 := hb.size; omega }; have hz0 : w.heap.size < w'.heap.size := (by omega); have hgz : g < w'.heap.size := (by omega); have HZ := Lib.hid hz; clear hb)
      | (go_at_call 50; (with_reducible refine (HC.out _ HB.out).mono ?_); rintro e w' ⟨rfl, hb⟩; have HB := Lib.hid (HB.out.trans (hb.mono HB.out.size)); obtain ⟨hc, hf⟩ := bcell hb; have hz : w.heap.size + 1 < w'.heap.size := by { have h1 := HZ.out; have h2 := hb.size; omega }; have hz0 : w.heap.size < w'.heap.size := (by omega); have hgz : g < w'.heap.size := (by omega); have HZ := Lib.hid hz; clear hb)
      | (go_at_call 91; (with_reducible refine (HI.out _ HB.out).mono ?_); rintro e w' ⟨rfl, hb⟩; have HB := Lib.hid (HB.out.trans (hb.mono HB.out.size)); obtain ⟨hc, hf⟩ := bcell hb; have hz : w.heap.size + 1 < w'.heap.size := by { have h1 := HZ.out; have h2 := hb.size; omega }; have hz0 : w.heap.size < w'.heap.size := (by omega); have hgz : g < w'.heap.size := (by omega); have HZ := Lib.hid hz; clear hb)
      | (go_at_call 48; (with_reducible refine (HO.out _ HB.out).mono ?_); rintro e w' ⟨rfl, hb⟩; have HB := Lib.hid (HB.out.trans (hb.mono HB.out.size)); obtain ⟨hc, hf⟩ := bcell hb; have hz : w.heap.size + 1 < w'.heap.size := by { have h1 := HZ.out; have h2 := hb.size; omega }; have hz0 : w.heap.size < w'.heap.size := (by omega); have hgz : g < w'.heap.size := (by omega); have HZ := Lib.hid hz; clear hb))
    go_ret
    exact ⟨ret_bool (by rw [HX.out]; simp), HB.out⟩
set_option maxRecDepth 100000 in
set_option maxHeartbeats 4000000 in
theorem if_l (nu po tk rf up : Int) (tn : ByteArray)  (A : Option Addr) (cap : Nat) (k : Fo) (w : World) (hl : ¬ k.len = 3) : CB' 91 w (.agg #[.int .i64 18, .string ⟨#[]⟩, .int .i64 nu, .int .i64 po, .slice A k.len cap, .int .i64 tk, .string tn, .int .i64 rf, .int .i64 up]) (kdOk nmv 18 ⟨18, ⟨#[]⟩, nu, po, tk, tn, rf, up⟩ k) := by
  have HX : Hid (kdOk nmv 18 ⟨18, ⟨#[]⟩, nu, po, tk, tn, rf, up⟩ k = false) := Lib.hid (by rw [kd18, thr3_len hl, Bool.and_false])
  obtain ⟨n, hn⟩ : ∃ n, k.len = n := ⟨_, rfl⟩
  rw [hn] at hl
  have hne : ((n : Int) == 3) = false := by rw [show ((n : Int) == 3) = decide (n = 3) from ieq n 3]; simpa using hl
  have hne2 : ((n : Int) != 3) = true := by rw [bne, hne]; rfl
  rw [show CB' 91 w (.agg #[.int .i64 18, .string ⟨#[]⟩, .int .i64 nu, .int .i64 po, .slice A k.len cap, .int .i64 tk, .string tn, .int .i64 rf, .int .i64 up]) (kdOk nmv 18 ⟨18, ⟨#[]⟩, nu, po, tk, tn, rf, up⟩ k) = CB' 91 w (.agg #[.int .i64 18, .string ⟨#[]⟩, .int .i64 nu, .int .i64 po, .slice A n cap, .int .i64 tk, .string tn, .int .i64 rf, .int .i64 up]) (kdOk nmv 18 ⟨18, ⟨#[]⟩, nu, po, tk, tn, rf, up⟩ k) by rw [hn]]
  clear hl hn
  go_enter Tryz.func91, Tryz.ntmps91
  go_wp2
  go_ret
  exact ⟨ret_bool HX.out.symm, b1 _ _⟩
set_option maxRecDepth 100000 in
set_option maxHeartbeats 4000000 in
theorem if_f (nu po tk rf up : Int) (tn : ByteArray) (tx : ByteArray) (A : Option Addr) (cap : Nat) (k : Fo) (w : World) (HT : Hid ((tx.data.toList == []) = false)) (t1 : (tx.toList == []) = false) (t2 : tx.toList.isEmpty = false) : CB' 91 w (.agg #[.int .i64 18, .string tx, .int .i64 nu, .int .i64 po, .slice A k.len cap, .int .i64 tk, .string tn, .int .i64 rf, .int .i64 up]) (kdOk nmv 18 ⟨18, tx, nu, po, tk, tn, rf, up⟩ k) := by
  have HX : Hid (kdOk nmv 18 ⟨18, tx, nu, po, tk, tn, rf, up⟩ k = false) := Lib.hid (by rw [kd18, HT.out, Bool.false_and, Bool.false_and])
  obtain ⟨n, hn⟩ : ∃ n, k.len = n := ⟨_, rfl⟩
  rw [hn]
  clear hn
  go_enter Tryz.func91, Tryz.ntmps91
  go_wp2
  go_ret
  exact ⟨ret_bool HX.out.symm, b1 _ _⟩
set_option maxRecDepth 100000 in
set_option maxHeartbeats 4000000 in
theorem if_no (h : Hd) (A : Option Addr) (cap : Nat) (k : Fo) (w : World) (e : (h.kind == 18) = false) : CB' 91 w (nv h A k.len cap) (kdOk nmv 18 h k) := by
  have HX : Hid (kdOk nmv 18 h k = false) := Lib.hid (kd_no (by simpa using e) k)
  obtain ⟨n, hn⟩ : ∃ n, k.len = n := ⟨_, rfl⟩
  rw [hn]
  have e2 : (h.kind != 18) = true := by simpa using e
  clear hn
  go_enter Tryz.func91, Tryz.ntmps91
  go_wp2
  go_ret
  exact ⟨ret_bool HX.out.symm, b1 _ _⟩
theorem va_any (h : Hd) (k : Fo) (A : Option Addr) (cap : Nat) (w : World) (e : h.kind = 6) (hn : numIx h) (hF : k.AllH numIx) (hk : Kids (Lt w.heap.size) w A k) (hE : k.All CE) : CB' 47 w (nv h A k.len cap) (kdOk nmv 6 h k) := by
  obtain ⟨kd, tx, nu, po, tk, tn, rf, up⟩ := h
  obtain rfl : kd = 6 := e
  cases hv : nmv tx with
  | true =>
    by_cases hl : k.len = 2
    · exact va_y nu po tk rf up tn tx A cap k w (Lib.hid (name_yes hv hn.2)) hv hl hk (fun h0 k0 h1 k1 e => by subst e; exact ⟨hF.1.2, fun A1 c1 hk1 => CE.at hE.2.1 hk1⟩)
    · exact va_l nu po tk rf up tn tx A cap k w (Lib.hid (name_yes hv hn.2)) hl
  | false => exact va_f nu po tk rf up tn tx A cap k w (Lib.hid (name_no hv hn.2)) hv
theorem if_any (h : Hd) (k : Fo) (A : Option Addr) (cap : Nat) (w : World) (hk : Kids (Lt w.heap.size) w A k) (hE : k.All CE) (hB : k.All CBl) (hI : k.All CI) : CB' 91 w (nv h A k.len cap) (kdOk nmv 18 h k) := by
  by_cases e : h.kind = 18
  · obtain ⟨kd, tx, nu, po, tk, tn, rf, up⟩ := h
    obtain rfl : kd = 18 := e
    by_cases ht : tx.toList = []
    · obtain rfl := ba_nil ht
      by_cases hl : k.len = 3
      · exact if_y nu po tk rf up tn A cap k w hl hk hE hB hI
      · exact if_l nu po tk rf up tn A cap k w hl
    · obtain ⟨t0, t1, t2⟩ := nemp ht
      exact if_f nu po tk rf up tn tx A cap k w (Lib.hid t0) t1 t2
  · exact if_no h A cap k w (by simpa using e)
end Go.Proofs.YticbcnhbpbaocaaGreatDoor
