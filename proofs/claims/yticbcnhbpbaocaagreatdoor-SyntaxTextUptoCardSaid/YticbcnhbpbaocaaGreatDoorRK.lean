/-
  The walks of the specification's isDecl and Valid.
-/
import Derived.Test.YticbcnhbpbaocaaGreatDoorRJ
set_option linter.all false
namespace Go.Proofs.YticbcnhbpbaocaaGreatDoor
open Go.RowKit T T.Fo
set_option maxRecDepth 100000 in
set_option maxHeartbeats 4000000 in
theorem de_2y (nu po tk rf up : Int) (tn : ByteArray) (tx : ByteArray) (A : Option Addr) (cap : Nat) (k : Fo) (w : World) (hv : nmv tx = true) (HN : Hid (∀ W, Calls Tryz.prog 45 #[.string tx] W fun e w' => e = .returned (.bool true) ∧ W = w')) (hL : At 46 w (.slice A k.len cap) (allB (kdOk nmv 3) k)) : CB' 30 w (.agg #[.int .i64 2, .string tx, .int .i64 nu, .int .i64 po, .slice A k.len cap, .int .i64 tk, .string tn, .int .i64 rf, .int .i64 up]) (deOk nmv ⟨2, tx, nu, po, tk, tn, rf, up⟩ k) := by
  have HX := Lib.hid (de2 nu po tk rf up tn tx k)
  rw [hv, Bool.true_and, Bool.true_and] at HX
  obtain ⟨v, hv2⟩ : ∃ v, allB (kdOk nmv 3) k = v := ⟨_, rfl⟩
  obtain ⟨n, hn⟩ : ∃ n, k.len = n := ⟨_, rfl⟩
  rw [hv2] at HX hL
  rw [hn] at hL ⊢
  have HC := Lib.hid hL
  have HB0 : Hid (Below w.heap.size w (w.alloc (.cells #[.int .i64 2, .string tx, .int .i64 nu, .int .i64 po, .slice A n cap, .int .i64 tk, .string tn, .int .i64 rf, .int .i64 up] 26))) := Lib.hid (b1 w _)
  have HZ0 : Hid (w.heap.size < (w.alloc (.cells #[.int .i64 2, .string tx, .int .i64 nu, .int .i64 po, .slice A n cap, .int .i64 tk, .string tn, .int .i64 rf, .int .i64 up] 26)).heap.size) := Lib.hid (by simp)
  clear hv hv2 hn hL
  go_enter Tryz.func30, Tryz.ntmps30
  go_wp2_with fail
  refine (HN.out _).mono ?_
  rintro e W ⟨rfl, rfl⟩
  go_wp2_with fail
  refine (HC.out _ HB0.out).mono ?_
  rintro e V1 ⟨rfl, hb⟩
  have HB1 := Lib.hid (HB0.out.trans (hb.mono HB0.out.size))
  obtain ⟨hc1, hf1⟩ := bcell hb
  have hz1 : w.heap.size < V1.heap.size := by have := hb.size; have := HZ0.out; omega
  have HZ1 := Lib.hid hz1
  clear hb
  go_wp2
  go_ret
  exact ⟨ret_bool HX.out.symm, HB1.out⟩
set_option maxRecDepth 100000 in
set_option maxHeartbeats 4000000 in
theorem de_2f (nu po tk rf up : Int) (tn : ByteArray) (tx : ByteArray) (A : Option Addr) (cap : Nat) (k : Fo) (w : World) (hv : nmv tx = false) (HN : Hid (∀ W, Calls Tryz.prog 45 #[.string tx] W fun e w' => e = .returned (.bool false) ∧ W = w')) : CB' 30 w (.agg #[.int .i64 2, .string tx, .int .i64 nu, .int .i64 po, .slice A k.len cap, .int .i64 tk, .string tn, .int .i64 rf, .int .i64 up]) (deOk nmv ⟨2, tx, nu, po, tk, tn, rf, up⟩ k) := by
  have HX : Hid (deOk nmv ⟨2, tx, nu, po, tk, tn, rf, up⟩ k = false) := Lib.hid (by rw [de2, hv, Bool.false_and, Bool.false_and])
  obtain ⟨n, hn⟩ : ∃ n, k.len = n := ⟨_, rfl⟩
  rw [hn]
  have HB0 : Hid (Below w.heap.size w (w.alloc (.cells #[.int .i64 2, .string tx, .int .i64 nu, .int .i64 po, .slice A n cap, .int .i64 tk, .string tn, .int .i64 rf, .int .i64 up] 26))) := Lib.hid (b1 w _)
  have HZ0 : Hid (w.heap.size < (w.alloc (.cells #[.int .i64 2, .string tx, .int .i64 nu, .int .i64 po, .slice A n cap, .int .i64 tk, .string tn, .int .i64 rf, .int .i64 up] 26)).heap.size) := Lib.hid (by simp)
  clear hv hn
  go_enter Tryz.func30, Tryz.ntmps30
  go_wp2_with fail
  refine (HN.out _).mono ?_
  rintro e W ⟨rfl, rfl⟩
  go_wp2
  go_ret
  exact ⟨ret_bool HX.out.symm, HB0.out⟩
set_option maxRecDepth 100000 in
set_option maxHeartbeats 4000000 in
theorem de_4f (nu po tk rf up : Int) (tn : ByteArray) (tx : ByteArray) (A : Option Addr) (cap : Nat) (k : Fo) (w : World) (hv : nmv tx = false) (HN : Hid (∀ W, Calls Tryz.prog 45 #[.string tx] W fun e w' => e = .returned (.bool false) ∧ W = w')) : CB' 30 w (.agg #[.int .i64 4, .string tx, .int .i64 nu, .int .i64 po, .slice A k.len cap, .int .i64 tk, .string tn, .int .i64 rf, .int .i64 up]) (deOk nmv ⟨4, tx, nu, po, tk, tn, rf, up⟩ k) := by
  have HX : Hid (deOk nmv ⟨4, tx, nu, po, tk, tn, rf, up⟩ k = false) := Lib.hid (by rw [de4, hv, Bool.false_and, Bool.false_and])
  obtain ⟨n, hn⟩ : ∃ n, k.len = n := ⟨_, rfl⟩
  rw [hn]
  have HB0 : Hid (Below w.heap.size w (w.alloc (.cells #[.int .i64 4, .string tx, .int .i64 nu, .int .i64 po, .slice A n cap, .int .i64 tk, .string tn, .int .i64 rf, .int .i64 up] 26))) := Lib.hid (b1 w _)
  have HZ0 : Hid (w.heap.size < (w.alloc (.cells #[.int .i64 4, .string tx, .int .i64 nu, .int .i64 po, .slice A n cap, .int .i64 tk, .string tn, .int .i64 rf, .int .i64 up] 26)).heap.size) := Lib.hid (by simp)
  clear hv hn
  go_enter Tryz.func30, Tryz.ntmps30
  go_wp2_with fail
  refine (HN.out _).mono ?_
  rintro e W ⟨rfl, rfl⟩
  go_wp2
  go_ret
  exact ⟨ret_bool HX.out.symm, HB0.out⟩
set_option maxRecDepth 100000 in
set_option maxHeartbeats 4000000 in
theorem de_6n (nu po tk rf up : Int) (tn : ByteArray) (tx : ByteArray) (A : Option Addr) (cap : Nat) (k : Fo) (w : World) (hv : kdOk nmv 6 ⟨6, tx, nu, po, tk, tn, rf, up⟩ k = false) (hS : At 47 w (.agg #[.int .i64 6, .string tx, .int .i64 nu, .int .i64 po, .slice A k.len cap, .int .i64 tk, .string tn, .int .i64 rf, .int .i64 up]) (kdOk nmv 6 ⟨6, tx, nu, po, tk, tn, rf, up⟩ k)) : CB' 30 w (.agg #[.int .i64 6, .string tx, .int .i64 nu, .int .i64 po, .slice A k.len cap, .int .i64 tk, .string tn, .int .i64 rf, .int .i64 up]) (deOk nmv ⟨6, tx, nu, po, tk, tn, rf, up⟩ k) := by
  have HX : Hid (deOk nmv ⟨6, tx, nu, po, tk, tn, rf, up⟩ k = false) := Lib.hid (by
    have e : okT nmv ⟨6, tx, nu, po, tk, tn, rf, up⟩ k = false := by have := hv; unfold kdOk at this; simpa using this
    unfold deOk
    rw [e, Bool.and_false])
  rw [hv] at hS
  obtain ⟨n, hn⟩ : ∃ n, k.len = n := ⟨_, rfl⟩
  rw [hn] at hS ⊢
  have HC := Lib.hid hS
  have HB0 : Hid (Below w.heap.size w (w.alloc (.cells #[.int .i64 6, .string tx, .int .i64 nu, .int .i64 po, .slice A n cap, .int .i64 tk, .string tn, .int .i64 rf, .int .i64 up] 26))) := Lib.hid (b1 w _)
  have HZ0 : Hid (w.heap.size < (w.alloc (.cells #[.int .i64 6, .string tx, .int .i64 nu, .int .i64 po, .slice A n cap, .int .i64 tk, .string tn, .int .i64 rf, .int .i64 up] 26)).heap.size) := Lib.hid (by simp)
  clear hv hn hS
  go_enter Tryz.func30, Tryz.ntmps30
  go_wp2_with fail
  refine (HC.out _ HB0.out).mono ?_
  rintro e V1 ⟨rfl, hb⟩
  have HB1 := Lib.hid (HB0.out.trans (hb.mono HB0.out.size))
  obtain ⟨hc1, hf1⟩ := bcell hb
  have hz1 : w.heap.size < V1.heap.size := by have := hb.size; have := HZ0.out; omega
  have HZ1 := Lib.hid hz1
  clear hb
  go_wp2
  go_ret
  exact ⟨ret_bool HX.out.symm, HB1.out⟩
set_option maxRecDepth 100000 in
set_option maxHeartbeats 4000000 in
theorem de_6y (nu po tk rf up : Int) (tn : ByteArray) (tx : ByteArray) (A : Option Addr) (cap : Nat) (k : Fo) (w : World) (hl : k.len = 2) (hv : kdOk nmv 6 ⟨6, tx, nu, po, tk, tn, rf, up⟩ k = true) (hk : Kids (Lt w.heap.size) w A k) (hS : At 47 w (.agg #[.int .i64 6, .string tx, .int .i64 nu, .int .i64 po, .slice A k.len cap, .int .i64 tk, .string tn, .int .i64 rf, .int .i64 up]) (kdOk nmv 6 ⟨6, tx, nu, po, tk, tn, rf, up⟩ k)) : CB' 30 w (.agg #[.int .i64 6, .string tx, .int .i64 nu, .int .i64 po, .slice A k.len cap, .int .i64 tk, .string tn, .int .i64 rf, .int .i64 up]) (deOk nmv ⟨6, tx, nu, po, tk, tn, rf, up⟩ k) := by
  obtain ⟨h0, k0, h1, k1, rfl⟩ := is2 hl
  obtain ⟨g, o, A0, c0, A1, c1, rfl, ⟨d0, d1, d2, d3, d4, d5, d6, d7, d8⟩, hk0, ⟨p0, p1, p2, p3, p4, p5, p6, p7, p8⟩, hk1, hg⟩ := kid2 hk
  have HX := Lib.hid (de6 nu po tk rf up tn tx h0 h1 k0 k1)
  rw [hv, Bool.true_and] at HX
  rw [hv] at hS
  have HO : Hid (∀ V, Below w.heap.size w V → CB' 48 V (nv h1 A1 k1.len c1) (noOk nmv h1 k1)) := Lib.hid fun V _ => isNone_any h1 k1 A1 c1 V
  obtain ⟨b, hb⟩ : ∃ v, noOk nmv h1 k1 = v := ⟨_, rfl⟩
  rw [hb] at HX HO
  obtain ⟨n1, hn1⟩ : ∃ n, k1.len = n := ⟨_, rfl⟩
  rw [hn1] at HO p4
  have hl2 : (Fo.cons h0 k0 (.cons h1 k1 .nil)).len = 2 := rfl
  rw [hl2] at hS ⊢
  have HV := Lib.hid hS
  have hgn : ¬ g = w.heap.size := by omega
  have hg1 : g < w.heap.size + 1 := by omega
  have HB : Hid (Below w.heap.size w (w.alloc (.cells #[.int .i64 6, .string tx, .int .i64 nu, .int .i64 po, .slice (some ⟨g, o, none⟩) 2 cap, .int .i64 tk, .string tn, .int .i64 rf, .int .i64 up] 26))) := Lib.hid (b1 w _)
  have HZ : Hid (w.heap.size < (w.alloc (.cells #[.int .i64 6, .string tx, .int .i64 nu, .int .i64 po, .slice (some ⟨g, o, none⟩) 2 cap, .int .i64 tk, .string tn, .int .i64 rf, .int .i64 up] 26)).heap.size) := Lib.hid (by simp)
  clear hv hb hn1 hl2 hk hk0 hk1 hS hl
  go_enter Tryz.func30, Tryz.ntmps30
  go_wp2_with (first
    | (go_at_call 47; (with_reducible refine (HV.out _ HB.out).mono ?_); rintro e w' ⟨rfl, hb⟩; have HB := Lib.hid (HB.out.trans (hb.mono HB.out.size)); obtain ⟨hc, hf⟩ := bcell hb; have hz : w.heap.size < w'.heap.size := by { have h1 := HZ.out; have h2 := hb.size; omega }; have hgz : g < w'.heap.size := (by omega); have HZ := Lib.hid hz; clear hb)
    | (go_at_call 48; (with_reducible refine (HO.out _ HB.out).mono ?_); rintro e w' ⟨rfl, hb⟩; have HB := Lib.hid (HB.out.trans (hb.mono HB.out.size)); obtain ⟨hc, hf⟩ := bcell hb; have hz : w.heap.size < w'.heap.size := by { have h1 := HZ.out; have h2 := hb.size; omega }; have hgz : g < w'.heap.size := (by omega); have HZ := Lib.hid hz; clear hb))
  go_ret
  exact ⟨ret_bool HX.out.symm, HB.out⟩
set_option maxRecDepth 100000 in
set_option maxHeartbeats 4000000 in
theorem de_4l (nu po tk rf up : Int) (tn : ByteArray) (tx : ByteArray) (A : Option Addr) (cap : Nat) (k : Fo) (w : World) (HN : Hid (∀ W, Calls Tryz.prog 45 #[.string tx] W fun e w' => e = .returned (.bool true) ∧ W = w')) (hl : ¬ k.len = 3) : CB' 30 w (.agg #[.int .i64 4, .string tx, .int .i64 nu, .int .i64 po, .slice A k.len cap, .int .i64 tk, .string tn, .int .i64 rf, .int .i64 up]) (deOk nmv ⟨4, tx, nu, po, tk, tn, rf, up⟩ k) := by
  have HX : Hid (deOk nmv ⟨4, tx, nu, po, tk, tn, rf, up⟩ k = false) := Lib.hid (by rw [de4, thr3_len hl, Bool.and_false])
  obtain ⟨n, hn⟩ : ∃ n, k.len = n := ⟨_, rfl⟩
  rw [hn] at hl
  have hne : ((n : Int) == 3) = false := by rw [show ((n : Int) == 3) = decide (n = 3) from ieq n 3]; simpa using hl
  have hne2 : ((n : Int) != 3) = true := by rw [bne, hne]; rfl
  rw [show CB' 30 w (.agg #[.int .i64 4, .string tx, .int .i64 nu, .int .i64 po, .slice A k.len cap, .int .i64 tk, .string tn, .int .i64 rf, .int .i64 up]) (deOk nmv ⟨4, tx, nu, po, tk, tn, rf, up⟩ k) = CB' 30 w (.agg #[.int .i64 4, .string tx, .int .i64 nu, .int .i64 po, .slice A n cap, .int .i64 tk, .string tn, .int .i64 rf, .int .i64 up]) (deOk nmv ⟨4, tx, nu, po, tk, tn, rf, up⟩ k) by rw [hn]]
  have HB0 : Hid (Below w.heap.size w (w.alloc (.cells #[.int .i64 4, .string tx, .int .i64 nu, .int .i64 po, .slice A n cap, .int .i64 tk, .string tn, .int .i64 rf, .int .i64 up] 26))) := Lib.hid (b1 w _)
  have HZ0 : Hid (w.heap.size < (w.alloc (.cells #[.int .i64 4, .string tx, .int .i64 nu, .int .i64 po, .slice A n cap, .int .i64 tk, .string tn, .int .i64 rf, .int .i64 up] 26)).heap.size) := Lib.hid (by simp)
  clear hl hn
  go_enter Tryz.func30, Tryz.ntmps30
  go_wp2_with (go_at_call 45; refine (HN.out _).mono ?_; rintro e w' ⟨rfl, rfl⟩)
  go_ret
  exact ⟨ret_bool HX.out.symm, HB0.out⟩
set_option maxRecDepth 100000 in
set_option maxHeartbeats 4000000 in
theorem de_4y (nu po tk rf up : Int) (tn : ByteArray) (tx : ByteArray) (A : Option Addr) (cap : Nat) (k : Fo) (w : World) (hv : nmv tx = true) (HN : Hid (∀ W, Calls Tryz.prog 45 #[.string tx] W fun e w' => e = .returned (.bool true) ∧ W = w')) (hl : k.len = 3) (hk : Kids (Lt w.heap.size) w A k) (hcn : k.cnt ≤ 1048576) (hF : k.AllH numIx) (hB : k.All CBl) : CB' 30 w (.agg #[.int .i64 4, .string tx, .int .i64 nu, .int .i64 po, .slice A k.len cap, .int .i64 tk, .string tn, .int .i64 rf, .int .i64 up]) (deOk nmv ⟨4, tx, nu, po, tk, tn, rf, up⟩ k) := by
  obtain ⟨h0, k0, h1, k1, h2, k2, rfl⟩ := is3 hl
  obtain ⟨g, o, A0, c0, A1, c1, A2, c2, rfl, ⟨d0, d1, d2, d3, d4, d5, d6, d7, d8⟩, hk0, ⟨p0, p1, p2, p3, p4, p5, p6, p7, p8⟩, hk1, ⟨q0, q1, q2, q3, q4, q5, q6, q7, q8⟩, hk2, hg⟩ := kid3 hk
  simp only [Fo.cnt] at hcn
  have HF := Lib.hid (fields_at (F := k0) (A := A0) (cap := c0) hF.2.1 (Nat.le_trans k0.len_le_cnt (by omega)) hk0)
  have HO : Hid (∀ V, Below w.heap.size w V → CB' 48 V (nv h1 A1 k1.len c1) (noOk nmv h1 k1)) := Lib.hid fun V _ => isNone_any h1 k1 A1 c1 V
  have HT : Hid (∀ V, Below w.heap.size w V → CB' 49 V (nv h1 A1 k1.len c1) (tyOk nmv h1 k1)) := Lib.hid fun V _ => rIsType_any h1 k1 A1 c1 V hF.2.2.1.2
  have HBl := Lib.hid (CBl.at (cap := c2) hB.2.2.1 hk2)
  have HX := Lib.hid (de4 nu po tk rf up tn tx (.cons h0 k0 (.cons h1 k1 (.cons h2 k2 .nil))))
  rw [hv, Bool.true_and, Bool.true_and, show thr3 (kdOk nmv 5) (fun h k => (noOk nmv h k || tyOk nmv h k)) (kdOk nmv 10) (.cons h0 k0 (.cons h1 k1 (.cons h2 k2 .nil))) = (kdOk nmv 5 h0 k0 && ((noOk nmv h1 k1 || tyOk nmv h1 k1) && kdOk nmv 10 h2 k2)) from rfl] at HX
  obtain ⟨a, ha⟩ : ∃ v, allB (kdOk nmv 3) k0 = v := ⟨_, rfl⟩
  obtain ⟨b, hb⟩ : ∃ v, noOk nmv h1 k1 = v := ⟨_, rfl⟩
  obtain ⟨c, hc⟩ : ∃ v, tyOk nmv h1 k1 = v := ⟨_, rfl⟩
  obtain ⟨d, hd⟩ : ∃ v, kdOk nmv 10 h2 k2 = v := ⟨_, rfl⟩
  rw [hb, hc, hd] at HX
  rw [ha] at HF
  rw [hb] at HO
  rw [hc] at HT
  rw [hd] at HBl
  obtain ⟨n0, hn0⟩ : ∃ n, k0.len = n := ⟨_, rfl⟩
  obtain ⟨n1, hn1⟩ : ∃ n, k1.len = n := ⟨_, rfl⟩
  obtain ⟨n2, hn2⟩ : ∃ n, k2.len = n := ⟨_, rfl⟩
  rw [hn0] at HF d4
  rw [hn1] at HO HT p4
  rw [hn2] at HBl q4
  have hl3 : (Fo.cons h0 k0 (.cons h1 k1 (.cons h2 k2 .nil))).len = 3 := rfl
  rw [hl3]
  have hgn : ¬ g = w.heap.size := by omega
  have hgn1 : ¬ g = w.heap.size + 1 := by omega
  have hg1 : g < w.heap.size + 1 := by omega
  have hg2 : g < w.heap.size + 1 + 1 := by omega
  have HB : Hid (Below w.heap.size w ((w.alloc (.cells #[.int .i64 4, .string tx, .int .i64 nu, .int .i64 po, .slice (some ⟨g, o, none⟩) 3 cap, .int .i64 tk, .string tn, .int .i64 rf, .int .i64 up] 26)).alloc (.cells #[.int .i64 h0.kind, .string h0.text, .int .i64 h0.num, .int .i64 h0.pos, .slice A0 n0 c0, .int .i64 h0.tk, .string h0.tn, .int .i64 h0.ref, .int .i64 h0.up] 26))) := Lib.hid ((b1 w _).alloc (by simp) _)
  have HZ : Hid (w.heap.size + 1 < ((w.alloc (.cells #[.int .i64 4, .string tx, .int .i64 nu, .int .i64 po, .slice (some ⟨g, o, none⟩) 3 cap, .int .i64 tk, .string tn, .int .i64 rf, .int .i64 up] 26)).alloc (.cells #[.int .i64 h0.kind, .string h0.text, .int .i64 h0.num, .int .i64 h0.pos, .slice A0 n0 c0, .int .i64 h0.tk, .string h0.tn, .int .i64 h0.ref, .int .i64 h0.up] 26)).heap.size) := Lib.hid (by simp)
  have HA0 := Lib.hid ha
  clear hv ha hb hc hd hn0 hn1 hn2 hl3 hk hk0 hk1 hk2 hB hF hl hcn
  by_cases e5 : h0.kind = 5
  · have k5 : (h0.kind == 5) = true := by simpa using e5
    by_cases ht : h0.text.toList = []
    · have t0 : (h0.text.toList == []) = true := by simpa using ht
      have t1 : h0.text.toList.isEmpty = true := by simpa using ht
      have HX2 : Hid (kdOk nmv 5 h0 k0 = a) := Lib.hid (by rw [kd5 e5, emp_iff, t1, HA0.out]; rfl)
      clear e5 ht
      cases a <;> cases b <;> cases c <;>
      · go_enter Tryz.func30, Tryz.ntmps30
        go_wp2_with (first
          | (go_at_call 45; refine (HN.out _).mono ?_; rintro e w' ⟨rfl, rfl⟩)
          | (go_at_call 46; (with_reducible refine (HF.out _ HB.out).mono ?_); rintro e w' ⟨rfl, hb⟩; have HB := Lib.hid (HB.out.trans (hb.mono HB.out.size)); obtain ⟨hc, hf⟩ := bcell hb; have hz : w.heap.size + 1 < w'.heap.size := by { have h1 := HZ.out; have h2 := hb.size; omega }; have hz0 : w.heap.size < w'.heap.size := (by omega); have hgz : g < w'.heap.size := (by omega); have HZ := Lib.hid hz; clear hb)
          | (go_at_call 48; (with_reducible refine (HO.out _ HB.out).mono ?_); rintro e w' ⟨rfl, hb⟩; have HB := Lib.hid (HB.out.trans (hb.mono HB.out.size)); obtain ⟨hc, hf⟩ := bcell hb; have hz : w.heap.size + 1 < w'.heap.size := by { have h1 := HZ.out; have h2 := hb.size; omega }; have hz0 : w.heap.size < w'.heap.size := (by omega); have hgz : g < w'.heap.size := (by omega); have HZ := Lib.hid hz; clear hb)
          | (go_at_call 49; (with_reducible refine (HT.out _ HB.out).mono ?_); rintro e w' ⟨rfl, hb⟩; have HB := Lib.hid (HB.out.trans (hb.mono HB.out.size)); obtain ⟨hc, hf⟩ := bcell hb; have hz : w.heap.size + 1 < w'.heap.size := by { have h1 := HZ.out; have h2 := hb.size; omega }; have hz0 : w.heap.size < w'.heap.size := (by omega); have hgz : g < w'.heap.size := (by omega); have HZ := Lib.hid hz; clear hb)
          | (go_at_call 50; (with_reducible refine (HBl.out _ HB.out).mono ?_); rintro e w' ⟨rfl, hb⟩; have HB := Lib.hid (HB.out.trans (hb.mono HB.out.size)); obtain ⟨hc, hf⟩ := bcell hb; have hz : w.heap.size + 1 < w'.heap.size := by { have h1 := HZ.out; have h2 := hb.size; omega }; have hz0 : w.heap.size < w'.heap.size := (by omega); have hgz : g < w'.heap.size := (by omega); have HZ := Lib.hid hz; clear hb))
        go_ret
        exact ⟨ret_bool (by rw [HX.out, HX2.out]; simp), HB.out⟩
    · obtain ⟨t0, t1, t2⟩ := nemp ht
      have HX2 : Hid (kdOk nmv 5 h0 k0 = false) := Lib.hid (by rw [kd5 e5, t0, Bool.false_and, Bool.false_and])
      clear e5 ht t0
      go_enter Tryz.func30, Tryz.ntmps30
      go_wp2_with (go_at_call 45; refine (HN.out _).mono ?_; rintro e w' ⟨rfl, rfl⟩)
      go_ret
      exact ⟨ret_bool (by rw [HX.out, HX2.out]; simp), HB.out⟩
  · have k5 : (h0.kind == 5) = false := by simpa using e5
    have HX2 : Hid (kdOk nmv 5 h0 k0 = false) := Lib.hid (kd_no e5 k0)
    clear e5
    go_enter Tryz.func30, Tryz.ntmps30
    go_wp2_with (go_at_call 45; refine (HN.out _).mono ?_; rintro e w' ⟨rfl, rfl⟩)
    go_ret
    exact ⟨ret_bool (by rw [HX.out, HX2.out]; simp), HB.out⟩
set_option maxRecDepth 100000 in
set_option maxHeartbeats 4000000 in
theorem de_no (h : Hd) (A : Option Addr) (cap : Nat) (k : Fo) (w : World) (x2 : (h.kind == 2) = false) (x4 : (h.kind == 4) = false) (x6 : (h.kind == 6) = false) : CB' 30 w (nv h A k.len cap) (deOk nmv h k) := by
  have HX : Hid (deOk nmv h k = false) := Lib.hid (by unfold deOk declT; rw [x2, x4, x6]; rfl)
  obtain ⟨n, hn⟩ : ∃ n, k.len = n := ⟨_, rfl⟩
  rw [hn]
  clear hn
  go_enter Tryz.func30, Tryz.ntmps30
  go_wp2
  go_ret
  exact ⟨ret_bool HX.out.symm, b1 _ _⟩
theorem de_any (h : Hd) (k : Fo) (A : Option Addr) (cap : Nat) (w : World) (hO : Ok h k) (hk : Kids (Lt w.heap.size) w A k) : CB' 30 w (nv h A k.len cap) (deOk nmv h k) := by
  have h5 := (pv_any h k hO).2
  have hE : k.All CE := all_imp' (fun _ _ q => q.1) k h5
  have hB : k.All CBl := all_imp' (fun _ _ q => q.2.1) k h5
  obtain ⟨hn, hF, hcn⟩ := hO
  have hfl : k.len ≤ 1048576 := Nat.le_trans k.len_le_cnt hcn
  obtain ⟨kd, tx, nu, po, tk, tn, rf, up⟩ := h
  by_cases e2 : kd = 2
  · subst e2
    cases hv : nmv tx with
    | true => exact de_2y nu po tk rf up tn tx A cap k w hv (Lib.hid (name_yes hv hn.2)) (fields_at hF hfl hk)
    | false => exact de_2f nu po tk rf up tn tx A cap k w hv (Lib.hid (name_no hv hn.2))
  · by_cases e4 : kd = 4
    · subst e4
      cases hv : nmv tx with
      | true =>
        by_cases hl : k.len = 3
        · exact de_4y nu po tk rf up tn tx A cap k w hv (Lib.hid (name_yes hv hn.2)) hl hk hcn hF hB
        · exact de_4l nu po tk rf up tn tx A cap k w (Lib.hid (name_yes hv hn.2)) hl
      | false => exact de_4f nu po tk rf up tn tx A cap k w hv (Lib.hid (name_no hv hn.2))
    · by_cases e6 : kd = 6
      · subst e6
        have hS : At 47 w (nv ⟨6, tx, nu, po, tk, tn, rf, up⟩ A k.len cap) (kdOk nmv 6 ⟨6, tx, nu, po, tk, tn, rf, up⟩ k) := fun V hV => va_any _ k A cap V rfl hn hF (kids_at' hk hV) hE
        cases hv : kdOk nmv 6 ⟨6, tx, nu, po, tk, tn, rf, up⟩ k with
        | true =>
          have hl : k.len = 2 := by
            by_cases hl : k.len = 2
            · exact hl
            · exfalso
              rw [kd6, two2_len hl, Bool.and_false] at hv; cases hv
          exact de_6y nu po tk rf up tn tx A cap k w hl hv hk hS
        | false => exact de_6n nu po tk rf up tn tx A cap k w hv hS
      · exact de_no _ A cap k w (by simpa using e2) (by simpa using e4) (by simpa using e6)
end Go.Proofs.YticbcnhbpbaocaaGreatDoor
