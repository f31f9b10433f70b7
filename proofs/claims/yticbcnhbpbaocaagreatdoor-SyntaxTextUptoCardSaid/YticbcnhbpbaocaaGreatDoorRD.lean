/-
  The walks of the specification's IsExpr, by kinds, and of expressions.
-/
import Derived.Test.YticbcnhbpbaocaaGreatDoorRC
set_option linter.all false
namespace Go.Proofs.YticbcnhbpbaocaaGreatDoor
open Go.RowKit T T.Fo
theorem exq (nmv : ByteArray → Bool) {h : Hd} {k : Fo} {l : List Pl} {t n : Bool} (e : exprK h.kind = true) (p : places h.kind k.len = l) (ht : textFits nmv h = t) (hn : numFits h = n) : exOk nmv h k = (t && n && (fits l k && okF nmv k)) := by
  unfold exOk; rw [e, okT_of nmv p, ht, hn]; rfl
theorem stq (nmv : ByteArray → Bool) {h : Hd} {k : Fo} {l : List Pl} {t n : Bool} (e : stmtK h.kind = true) (p : places h.kind k.len = l) (ht : textFits nmv h = t) (hn : numFits h = n) : stOk nmv h k = (t && n && (fits l k && okF nmv k)) := by
  unfold stOk; rw [e, okT_of nmv p, ht, hn]; rfl
theorem nemp {tx : ByteArray} (h : ¬ tx.toList = []) : (tx.data.toList == []) = false ∧ (tx.toList == []) = false ∧ tx.toList.isEmpty = false := by
  refine ⟨?_, by simpa using h, by simpa using h⟩
  rw [ByteArray.toList_eq] at h
  simpa using h
theorem exq_24 (nu po tk rf up : Int) (tn : ByteArray) (tx : ByteArray) (k : Fo) : exOk nmv ⟨24, tx, nu, po, tk, tn, rf, up⟩ k = ((tx.data.toList == []) && decide (0 ≤ nu) && decide (k.len = 0)) := by
  rw [exq nmv (l := []) rfl rfl rfl rfl, fitv_nil]; rfl
set_option maxRecDepth 100000 in
set_option maxHeartbeats 4000000 in
theorem ie_24 (nu po tk rf up : Int) (tn : ByteArray) (tx : ByteArray) (A : Option Addr) (cap : Nat) (k : Fo) (w : World) : CB' 67 w (.agg #[.int .i64 24, .string tx, .int .i64 nu, .int .i64 po, .slice A k.len cap, .int .i64 tk, .string tn, .int .i64 rf, .int .i64 up]) (exOk nmv ⟨24, tx, nu, po, tk, tn, rf, up⟩ k) := by
  have HX := Lib.hid (exq_24 nu po tk rf up tn tx k)
  obtain ⟨n, hn⟩ : ∃ n, k.len = n := ⟨_, rfl⟩
  rw [hn, emp_iff] at HX
  rw [hn]
  clear hn
  go_enter Tryz.func67, Tryz.ntmps67
  go_wp2
  all_goals go_ret
  all_goals exact ⟨ret_bool (by rw [HX.out]; first | (simp_all; done) | (simp_all [ieq0]; done) | (simp_all [ieq0]; omega)), b1 _ _⟩
theorem exq_25 (nu po tk rf up : Int) (tn : ByteArray) (tx : ByteArray) (k : Fo) : exOk nmv ⟨25, tx, nu, po, tk, tn, rf, up⟩ k = ((tx.data.toList == []) && (nu == 0 || nu == 1) && decide (k.len = 0)) := by
  rw [exq nmv (l := []) rfl rfl rfl rfl, fitv_nil]; rfl
set_option maxRecDepth 100000 in
set_option maxHeartbeats 4000000 in
theorem ie_25 (nu po tk rf up : Int) (tn : ByteArray) (tx : ByteArray) (A : Option Addr) (cap : Nat) (k : Fo) (w : World) : CB' 67 w (.agg #[.int .i64 25, .string tx, .int .i64 nu, .int .i64 po, .slice A k.len cap, .int .i64 tk, .string tn, .int .i64 rf, .int .i64 up]) (exOk nmv ⟨25, tx, nu, po, tk, tn, rf, up⟩ k) := by
  have HX := Lib.hid (exq_25 nu po tk rf up tn tx k)
  obtain ⟨n, hn⟩ : ∃ n, k.len = n := ⟨_, rfl⟩
  rw [hn, emp_iff] at HX
  rw [hn]
  clear hn
  go_enter Tryz.func67, Tryz.ntmps67
  go_wp2
  all_goals go_ret
  all_goals exact ⟨ret_bool (by rw [HX.out]; first | (simp_all; done) | (simp_all [ieq0]; done) | (simp_all [ieq0]; omega)), b1 _ _⟩
theorem exq_26 (nu po tk rf up : Int) (tn : ByteArray) (tx : ByteArray) (k : Fo) : exOk nmv ⟨26, tx, nu, po, tk, tn, rf, up⟩ k = ((tx.data.toList == []) && true && decide (k.len = 0)) := by
  rw [exq nmv (l := []) rfl rfl rfl rfl, fitv_nil]; rfl
set_option maxRecDepth 100000 in
set_option maxHeartbeats 4000000 in
theorem ie_26 (nu po tk rf up : Int) (tn : ByteArray) (tx : ByteArray) (A : Option Addr) (cap : Nat) (k : Fo) (w : World) : CB' 67 w (.agg #[.int .i64 26, .string tx, .int .i64 nu, .int .i64 po, .slice A k.len cap, .int .i64 tk, .string tn, .int .i64 rf, .int .i64 up]) (exOk nmv ⟨26, tx, nu, po, tk, tn, rf, up⟩ k) := by
  have HX := Lib.hid (exq_26 nu po tk rf up tn tx k)
  obtain ⟨n, hn⟩ : ∃ n, k.len = n := ⟨_, rfl⟩
  rw [hn, emp_iff] at HX
  rw [hn]
  clear hn
  go_enter Tryz.func67, Tryz.ntmps67
  go_wp2
  all_goals go_ret
  all_goals exact ⟨ret_bool (by rw [HX.out]; first | (simp_all; done) | (simp_all [ieq0]; done) | (simp_all [ieq0]; omega)), b1 _ _⟩
theorem exq_27 (nu po tk rf up : Int) (tn : ByteArray) (tx : ByteArray) (k : Fo) : exOk nmv ⟨27, tx, nu, po, tk, tn, rf, up⟩ k = (nmv tx && true && decide (k.len = 0)) := by
  rw [exq nmv (l := []) rfl rfl rfl rfl, fitv_nil]; rfl
set_option maxRecDepth 100000 in
set_option maxHeartbeats 4000000 in
theorem ie_27 (nu po tk rf up : Int) (tn : ByteArray) (tx : ByteArray) (A : Option Addr) (cap : Nat) (k : Fo) (w : World) (hm : tx.size ≤ maxLen) : CB' 67 w (.agg #[.int .i64 27, .string tx, .int .i64 nu, .int .i64 po, .slice A k.len cap, .int .i64 tk, .string tn, .int .i64 rf, .int .i64 up]) (exOk nmv ⟨27, tx, nu, po, tk, tn, rf, up⟩ k) := by
  have HX := Lib.hid (exq_27 nu po tk rf up tn tx k)
  have HN := Lib.hid (fun W => rname_any tx W hm)
  obtain ⟨v, hv⟩ : ∃ v, nmv tx = v := ⟨_, rfl⟩
  obtain ⟨n, hn⟩ : ∃ n, k.len = n := ⟨_, rfl⟩
  rw [hn, hv] at HX
  rw [hn]
  rw [show M.nmB tx.data.toList = v from hv] at HN
  clear hn hv hm
  go_enter Tryz.func67, Tryz.ntmps67
  go_wp2_with (go_at_call 45; refine (HN.out _).mono ?_; rintro e w' ⟨rfl, rfl⟩)
  all_goals go_ret
  all_goals exact ⟨ret_bool (by rw [HX.out]; first | (simp_all; done) | (simp_all [ieq0]; done)), b1 _ _⟩
theorem exq_34 (nu po tk rf up : Int) (tn : ByteArray) (tx : ByteArray) (k : Fo) : exOk nmv ⟨34, tx, nu, po, tk, tn, rf, up⟩ k = (nmv tx && true && decide (k.len = 0)) := by
  rw [exq nmv (l := []) rfl rfl rfl rfl, fitv_nil]; rfl
set_option maxRecDepth 100000 in
set_option maxHeartbeats 4000000 in
theorem ie_34 (nu po tk rf up : Int) (tn : ByteArray) (tx : ByteArray) (A : Option Addr) (cap : Nat) (k : Fo) (w : World) (hm : tx.size ≤ maxLen) : CB' 67 w (.agg #[.int .i64 34, .string tx, .int .i64 nu, .int .i64 po, .slice A k.len cap, .int .i64 tk, .string tn, .int .i64 rf, .int .i64 up]) (exOk nmv ⟨34, tx, nu, po, tk, tn, rf, up⟩ k) := by
  have HX := Lib.hid (exq_34 nu po tk rf up tn tx k)
  have HN := Lib.hid (fun W => rname_any tx W hm)
  obtain ⟨v, hv⟩ : ∃ v, nmv tx = v := ⟨_, rfl⟩
  obtain ⟨n, hn⟩ : ∃ n, k.len = n := ⟨_, rfl⟩
  rw [hn, hv] at HX
  rw [hn]
  rw [show M.nmB tx.data.toList = v from hv] at HN
  clear hn hv hm
  go_enter Tryz.func67, Tryz.ntmps67
  go_wp2_with (go_at_call 45; refine (HN.out _).mono ?_; rintro e w' ⟨rfl, rfl⟩)
  all_goals go_ret
  all_goals exact ⟨ret_bool (by rw [HX.out]; first | (simp_all; done) | (simp_all [ieq0]; done)), b1 _ _⟩
theorem exq_33 (nu po tk rf up : Int) (tn : ByteArray) (tx : ByteArray) (k : Fo) : exOk nmv ⟨33, tx, nu, po, tk, tn, rf, up⟩ k = ((tx.data.toList == []) && true && one1 (exOk nmv) k) := by
  rw [exq nmv (l := [isE]) rfl rfl rfl rfl, fitv_one]; rfl
set_option maxRecDepth 100000 in
set_option maxHeartbeats 4000000 in
theorem ie_33py (nu po tk rf up : Int) (tn : ByteArray)  (A : Option Addr) (cap : Nat) (k : Fo) (w : World)  (hl : k.len = 1) (hk : Kids (Lt w.heap.size) w A k) (hE : ∀ h0 k0, k = .cons h0 k0 .nil → ∀ A0 c0, Kids (Lt w.heap.size) w A0 k0 → At 67 w (nv h0 A0 k0.len c0) (exOk nmv h0 k0)) : CB' 67 w (.agg #[.int .i64 33, .string ⟨#[]⟩, .int .i64 nu, .int .i64 po, .slice A k.len cap, .int .i64 tk, .string tn, .int .i64 rf, .int .i64 up]) (exOk nmv ⟨33, ⟨#[]⟩, nu, po, tk, tn, rf, up⟩ k) := by
  obtain ⟨h0, k0, rfl⟩ := is1 hl
  obtain ⟨g, o, A0, c0, rfl, ⟨d0, d1, d2, d3, d4, d5, d6, d7, d8⟩, hk0, hg⟩ := kidv1 hk
  have HC := Lib.hid (hE h0 k0 rfl A0 c0 hk0)
  have HX := Lib.hid (exq_33 nu po tk rf up tn (⟨#[]⟩) (.cons h0 k0 .nil))
  obtain ⟨v, hv⟩ : ∃ v, exOk nmv h0 k0 = v := ⟨_, rfl⟩
  rw [show one1 (exOk nmv) (.cons h0 k0 .nil) = v from hv, show ((⟨#[]⟩ : ByteArray).data.toList == []) = true from rfl, Bool.true_and, Bool.true_and] at HX
  rw [hv] at HC
  have hl1 : (Fo.cons h0 k0 .nil).len = 1 := rfl
  obtain ⟨n0, hn0⟩ : ∃ n, k0.len = n := ⟨_, rfl⟩
  rw [hn0] at HC d4
  rw [hl1]
  have hgn : ¬ g = w.heap.size := by omega
  have hg1 : g < w.heap.size + 1 := by omega
  have HB0 : Hid (Below w.heap.size w (w.alloc (.cells #[.int .i64 33, .string ⟨#[]⟩, .int .i64 nu, .int .i64 po, .slice (some ⟨g, o, none⟩) 1 cap, .int .i64 tk, .string tn, .int .i64 rf, .int .i64 up] 26))) := Lib.hid (b1 w _)
  have HZ0 : Hid (w.heap.size < (w.alloc (.cells #[.int .i64 33, .string ⟨#[]⟩, .int .i64 nu, .int .i64 po, .slice (some ⟨g, o, none⟩) 1 cap, .int .i64 tk, .string tn, .int .i64 rf, .int .i64 up] 26)).heap.size) := Lib.hid (by simp)
  clear hv hn0 hl1 hk hk0 hE hl
  go_enter Tryz.func67, Tryz.ntmps67
  go_wp2_with fail
  refine (HC.out _ HB0.out).mono ?_
  rintro e V1 ⟨rfl, hb⟩
  have HB1 := Lib.hid (HB0.out.trans (hb.mono HB0.out.size))
  obtain ⟨hc1, hf1⟩ := bcell hb
  have hz1 : w.heap.size < V1.heap.size := by have := hb.size; have := HZ0.out; omega
  have HZ1 := Lib.hid hz1
  clear hb
  go_wp2
  go_ret
  exact ⟨ret_bool HX.out.symm, HB1.out⟩
set_option maxRecDepth 100000 in
set_option maxHeartbeats 4000000 in
theorem ie_33pl (nu po tk rf up : Int) (tn : ByteArray)  (A : Option Addr) (cap : Nat) (k : Fo) (w : World)  (hl : ¬ k.len = 1) : CB' 67 w (.agg #[.int .i64 33, .string ⟨#[]⟩, .int .i64 nu, .int .i64 po, .slice A k.len cap, .int .i64 tk, .string tn, .int .i64 rf, .int .i64 up]) (exOk nmv ⟨33, ⟨#[]⟩, nu, po, tk, tn, rf, up⟩ k) := by
  have HX : Hid (exOk nmv ⟨33, ⟨#[]⟩, nu, po, tk, tn, rf, up⟩ k = false) := Lib.hid (by rw [exq_33, one1_len hl, Bool.and_false])
  obtain ⟨n, hn⟩ : ∃ n, k.len = n := ⟨_, rfl⟩
  rw [hn] at hl
  have hne : ((n : Int) == 1) = false := by rw [ieq1]; simpa using hl
  rw [show CB' 67 w (.agg #[.int .i64 33, .string ⟨#[]⟩, .int .i64 nu, .int .i64 po, .slice A k.len cap, .int .i64 tk, .string tn, .int .i64 rf, .int .i64 up]) (exOk nmv ⟨33, ⟨#[]⟩, nu, po, tk, tn, rf, up⟩ k) = CB' 67 w (.agg #[.int .i64 33, .string ⟨#[]⟩, .int .i64 nu, .int .i64 po, .slice A n cap, .int .i64 tk, .string tn, .int .i64 rf, .int .i64 up]) (exOk nmv ⟨33, ⟨#[]⟩, nu, po, tk, tn, rf, up⟩ k) by rw [hn]]
  have HB0 : Hid (Below w.heap.size w (w.alloc (.cells #[.int .i64 33, .string ⟨#[]⟩, .int .i64 nu, .int .i64 po, .slice A n cap, .int .i64 tk, .string tn, .int .i64 rf, .int .i64 up] 26))) := Lib.hid (b1 w _)
  have HZ0 : Hid (w.heap.size < (w.alloc (.cells #[.int .i64 33, .string ⟨#[]⟩, .int .i64 nu, .int .i64 po, .slice A n cap, .int .i64 tk, .string tn, .int .i64 rf, .int .i64 up] 26)).heap.size) := Lib.hid (by simp)
  clear hl hn
  go_enter Tryz.func67, Tryz.ntmps67
  go_wp2
  go_ret
  exact ⟨ret_bool HX.out.symm, HB0.out⟩
set_option maxRecDepth 100000 in
set_option maxHeartbeats 4000000 in
theorem ie_33qf (nu po tk rf up : Int) (tn : ByteArray) (tx : ByteArray) (A : Option Addr) (cap : Nat) (k : Fo) (w : World) (HT : Hid ((tx.data.toList == []) = false)) (t1 : (tx.toList == []) = false) (t2 : tx.toList.isEmpty = false) : CB' 67 w (.agg #[.int .i64 33, .string tx, .int .i64 nu, .int .i64 po, .slice A k.len cap, .int .i64 tk, .string tn, .int .i64 rf, .int .i64 up]) (exOk nmv ⟨33, tx, nu, po, tk, tn, rf, up⟩ k) := by
  have HX : Hid (exOk nmv ⟨33, tx, nu, po, tk, tn, rf, up⟩ k = false) := Lib.hid (by rw [exq_33, HT.out, Bool.false_and, Bool.false_and])
  obtain ⟨n, hn⟩ : ∃ n, k.len = n := ⟨_, rfl⟩
  rw [hn]
  have HB0 : Hid (Below w.heap.size w (w.alloc (.cells #[.int .i64 33, .string tx, .int .i64 nu, .int .i64 po, .slice A n cap, .int .i64 tk, .string tn, .int .i64 rf, .int .i64 up] 26))) := Lib.hid (b1 w _)
  have HZ0 : Hid (w.heap.size < (w.alloc (.cells #[.int .i64 33, .string tx, .int .i64 nu, .int .i64 po, .slice A n cap, .int .i64 tk, .string tn, .int .i64 rf, .int .i64 up] 26)).heap.size) := Lib.hid (by simp)
  clear hn
  go_enter Tryz.func67, Tryz.ntmps67
  go_wp2
  go_ret
  exact ⟨ret_bool HX.out.symm, HB0.out⟩
theorem exq_35 (nu po tk rf up : Int) (tn : ByteArray) (tx : ByteArray) (k : Fo) : exOk nmv ⟨35, tx, nu, po, tk, tn, rf, up⟩ k = ((tx.data.toList == []) && true && one1 (exOk nmv) k) := by
  rw [exq nmv (l := [isE]) rfl rfl rfl rfl, fitv_one]; rfl
set_option maxRecDepth 100000 in
set_option maxHeartbeats 4000000 in
theorem ie_35py (nu po tk rf up : Int) (tn : ByteArray)  (A : Option Addr) (cap : Nat) (k : Fo) (w : World)  (hl : k.len = 1) (hk : Kids (Lt w.heap.size) w A k) (hE : ∀ h0 k0, k = .cons h0 k0 .nil → ∀ A0 c0, Kids (Lt w.heap.size) w A0 k0 → At 67 w (nv h0 A0 k0.len c0) (exOk nmv h0 k0)) : CB' 67 w (.agg #[.int .i64 35, .string ⟨#[]⟩, .int .i64 nu, .int .i64 po, .slice A k.len cap, .int .i64 tk, .string tn, .int .i64 rf, .int .i64 up]) (exOk nmv ⟨35, ⟨#[]⟩, nu, po, tk, tn, rf, up⟩ k) := by
  obtain ⟨h0, k0, rfl⟩ := is1 hl
  obtain ⟨g, o, A0, c0, rfl, ⟨d0, d1, d2, d3, d4, d5, d6, d7, d8⟩, hk0, hg⟩ := kidv1 hk
  have HC := Lib.hid (hE h0 k0 rfl A0 c0 hk0)
  have HX := Lib.hid (exq_35 nu po tk rf up tn (⟨#[]⟩) (.cons h0 k0 .nil))
  obtain ⟨v, hv⟩ : ∃ v, exOk nmv h0 k0 = v := ⟨_, rfl⟩
  rw [show one1 (exOk nmv) (.cons h0 k0 .nil) = v from hv, show ((⟨#[]⟩ : ByteArray).data.toList == []) = true from rfl, Bool.true_and, Bool.true_and] at HX
  rw [hv] at HC
  have hl1 : (Fo.cons h0 k0 .nil).len = 1 := rfl
  obtain ⟨n0, hn0⟩ : ∃ n, k0.len = n := ⟨_, rfl⟩
  rw [hn0] at HC d4
  rw [hl1]
  have hgn : ¬ g = w.heap.size := by omega
  have hg1 : g < w.heap.size + 1 := by omega
  have HB0 : Hid (Below w.heap.size w (w.alloc (.cells #[.int .i64 35, .string ⟨#[]⟩, .int .i64 nu, .int .i64 po, .slice (some ⟨g, o, none⟩) 1 cap, .int .i64 tk, .string tn, .int .i64 rf, .int .i64 up] 26))) := Lib.hid (b1 w _)
  have HZ0 : Hid (w.heap.size < (w.alloc (.cells #[.int .i64 35, .string ⟨#[]⟩, .int .i64 nu, .int .i64 po, .slice (some ⟨g, o, none⟩) 1 cap, .int .i64 tk, .string tn, .int .i64 rf, .int .i64 up] 26)).heap.size) := Lib.hid (by simp)
  clear hv hn0 hl1 hk hk0 hE hl
  go_enter Tryz.func67, Tryz.ntmps67
  go_wp2_with fail
  refine (HC.out _ HB0.out).mono ?_
  rintro e V1 ⟨rfl, hb⟩
  have HB1 := Lib.hid (HB0.out.trans (hb.mono HB0.out.size))
  obtain ⟨hc1, hf1⟩ := bcell hb
  have hz1 : w.heap.size < V1.heap.size := by have := hb.size; have := HZ0.out; omega
  have HZ1 := Lib.hid hz1
  clear hb
  go_wp2
  go_ret
  exact ⟨ret_bool HX.out.symm, HB1.out⟩
set_option maxRecDepth 100000 in
set_option maxHeartbeats 4000000 in
theorem ie_35pl (nu po tk rf up : Int) (tn : ByteArray)  (A : Option Addr) (cap : Nat) (k : Fo) (w : World)  (hl : ¬ k.len = 1) : CB' 67 w (.agg #[.int .i64 35, .string ⟨#[]⟩, .int .i64 nu, .int .i64 po, .slice A k.len cap, .int .i64 tk, .string tn, .int .i64 rf, .int .i64 up]) (exOk nmv ⟨35, ⟨#[]⟩, nu, po, tk, tn, rf, up⟩ k) := by
  have HX : Hid (exOk nmv ⟨35, ⟨#[]⟩, nu, po, tk, tn, rf, up⟩ k = false) := Lib.hid (by rw [exq_35, one1_len hl, Bool.and_false])
  obtain ⟨n, hn⟩ : ∃ n, k.len = n := ⟨_, rfl⟩
  rw [hn] at hl
  have hne : ((n : Int) == 1) = false := by rw [ieq1]; simpa using hl
  rw [show CB' 67 w (.agg #[.int .i64 35, .string ⟨#[]⟩, .int .i64 nu, .int .i64 po, .slice A k.len cap, .int .i64 tk, .string tn, .int .i64 rf, .int .i64 up]) (exOk nmv ⟨35, ⟨#[]⟩, nu, po, tk, tn, rf, up⟩ k) = CB' 67 w (.agg #[.int .i64 35, .string ⟨#[]⟩, .int .i64 nu, .int .i64 po, .slice A n cap, .int .i64 tk, .string tn, .int .i64 rf, .int .i64 up]) (exOk nmv ⟨35, ⟨#[]⟩, nu, po, tk, tn, rf, up⟩ k) by rw [hn]]
  have HB0 : Hid (Below w.heap.size w (w.alloc (.cells #[.int .i64 35, .string ⟨#[]⟩, .int .i64 nu, .int .i64 po, .slice A n cap, .int .i64 tk, .string tn, .int .i64 rf, .int .i64 up] 26))) := Lib.hid (b1 w _)
  have HZ0 : Hid (w.heap.size < (w.alloc (.cells #[.int .i64 35, .string ⟨#[]⟩, .int .i64 nu, .int .i64 po, .slice A n cap, .int .i64 tk, .string tn, .int .i64 rf, .int .i64 up] 26)).heap.size) := Lib.hid (by simp)
  clear hl hn
  go_enter Tryz.func67, Tryz.ntmps67
  go_wp2
  go_ret
  exact ⟨ret_bool HX.out.symm, HB0.out⟩
set_option maxRecDepth 100000 in
set_option maxHeartbeats 4000000 in
theorem ie_35qf (nu po tk rf up : Int) (tn : ByteArray) (tx : ByteArray) (A : Option Addr) (cap : Nat) (k : Fo) (w : World) (HT : Hid ((tx.data.toList == []) = false)) (t1 : (tx.toList == []) = false) (t2 : tx.toList.isEmpty = false) : CB' 67 w (.agg #[.int .i64 35, .string tx, .int .i64 nu, .int .i64 po, .slice A k.len cap, .int .i64 tk, .string tn, .int .i64 rf, .int .i64 up]) (exOk nmv ⟨35, tx, nu, po, tk, tn, rf, up⟩ k) := by
  have HX : Hid (exOk nmv ⟨35, tx, nu, po, tk, tn, rf, up⟩ k = false) := Lib.hid (by rw [exq_35, HT.out, Bool.false_and, Bool.false_and])
  obtain ⟨n, hn⟩ : ∃ n, k.len = n := ⟨_, rfl⟩
  rw [hn]
  have HB0 : Hid (Below w.heap.size w (w.alloc (.cells #[.int .i64 35, .string tx, .int .i64 nu, .int .i64 po, .slice A n cap, .int .i64 tk, .string tn, .int .i64 rf, .int .i64 up] 26))) := Lib.hid (b1 w _)
  have HZ0 : Hid (w.heap.size < (w.alloc (.cells #[.int .i64 35, .string tx, .int .i64 nu, .int .i64 po, .slice A n cap, .int .i64 tk, .string tn, .int .i64 rf, .int .i64 up] 26)).heap.size) := Lib.hid (by simp)
  clear hn
  go_enter Tryz.func67, Tryz.ntmps67
  go_wp2
  go_ret
  exact ⟨ret_bool HX.out.symm, HB0.out⟩
theorem exq_36 (nu po tk rf up : Int) (tn : ByteArray) (tx : ByteArray) (k : Fo) : exOk nmv ⟨36, tx, nu, po, tk, tn, rf, up⟩ k = ((tx.data.toList == []) && true && one1 (exOk nmv) k) := by
  rw [exq nmv (l := [isE]) rfl rfl rfl rfl, fitv_one]; rfl
set_option maxRecDepth 100000 in
set_option maxHeartbeats 4000000 in
theorem ie_36py (nu po tk rf up : Int) (tn : ByteArray)  (A : Option Addr) (cap : Nat) (k : Fo) (w : World)  (hl : k.len = 1) (hk : Kids (Lt w.heap.size) w A k) (hE : ∀ h0 k0, k = .cons h0 k0 .nil → ∀ A0 c0, Kids (Lt w.heap.size) w A0 k0 → At 67 w (nv h0 A0 k0.len c0) (exOk nmv h0 k0)) : CB' 67 w (.agg #[.int .i64 36, .string ⟨#[]⟩, .int .i64 nu, .int .i64 po, .slice A k.len cap, .int .i64 tk, .string tn, .int .i64 rf, .int .i64 up]) (exOk nmv ⟨36, ⟨#[]⟩, nu, po, tk, tn, rf, up⟩ k) := by
  obtain ⟨h0, k0, rfl⟩ := is1 hl
  obtain ⟨g, o, A0, c0, rfl, ⟨d0, d1, d2, d3, d4, d5, d6, d7, d8⟩, hk0, hg⟩ := kidv1 hk
  have HC := Lib.hid (hE h0 k0 rfl A0 c0 hk0)
  have HX := Lib.hid (exq_36 nu po tk rf up tn (⟨#[]⟩) (.cons h0 k0 .nil))
  obtain ⟨v, hv⟩ : ∃ v, exOk nmv h0 k0 = v := ⟨_, rfl⟩
  rw [show one1 (exOk nmv) (.cons h0 k0 .nil) = v from hv, show ((⟨#[]⟩ : ByteArray).data.toList == []) = true from rfl, Bool.true_and, Bool.true_and] at HX
  rw [hv] at HC
  have hl1 : (Fo.cons h0 k0 .nil).len = 1 := rfl
  obtain ⟨n0, hn0⟩ : ∃ n, k0.len = n := ⟨_, rfl⟩
  rw [hn0] at HC d4
  rw [hl1]
  have hgn : ¬ g = w.heap.size := by omega
  have hg1 : g < w.heap.size + 1 := by omega
  have HB0 : Hid (Below w.heap.size w (w.alloc (.cells #[.int .i64 36, .string ⟨#[]⟩, .int .i64 nu, .int .i64 po, .slice (some ⟨g, o, none⟩) 1 cap, .int .i64 tk, .string tn, .int .i64 rf, .int .i64 up] 26))) := Lib.hid (b1 w _)
  have HZ0 : Hid (w.heap.size < (w.alloc (.cells #[.int .i64 36, .string ⟨#[]⟩, .int .i64 nu, .int .i64 po, .slice (some ⟨g, o, none⟩) 1 cap, .int .i64 tk, .string tn, .int .i64 rf, .int .i64 up] 26)).heap.size) := Lib.hid (by simp)
  clear hv hn0 hl1 hk hk0 hE hl
  go_enter Tryz.func67, Tryz.ntmps67
  go_wp2_with fail
  refine (HC.out _ HB0.out).mono ?_
  rintro e V1 ⟨rfl, hb⟩
  have HB1 := Lib.hid (HB0.out.trans (hb.mono HB0.out.size))
  obtain ⟨hc1, hf1⟩ := bcell hb
  have hz1 : w.heap.size < V1.heap.size := by have := hb.size; have := HZ0.out; omega
  have HZ1 := Lib.hid hz1
  clear hb
  go_wp2
  go_ret
  exact ⟨ret_bool HX.out.symm, HB1.out⟩
set_option maxRecDepth 100000 in
set_option maxHeartbeats 4000000 in
theorem ie_36pl (nu po tk rf up : Int) (tn : ByteArray)  (A : Option Addr) (cap : Nat) (k : Fo) (w : World)  (hl : ¬ k.len = 1) : CB' 67 w (.agg #[.int .i64 36, .string ⟨#[]⟩, .int .i64 nu, .int .i64 po, .slice A k.len cap, .int .i64 tk, .string tn, .int .i64 rf, .int .i64 up]) (exOk nmv ⟨36, ⟨#[]⟩, nu, po, tk, tn, rf, up⟩ k) := by
  have HX : Hid (exOk nmv ⟨36, ⟨#[]⟩, nu, po, tk, tn, rf, up⟩ k = false) := Lib.hid (by rw [exq_36, one1_len hl, Bool.and_false])
  obtain ⟨n, hn⟩ : ∃ n, k.len = n := ⟨_, rfl⟩
  rw [hn] at hl
  have hne : ((n : Int) == 1) = false := by rw [ieq1]; simpa using hl
  rw [show CB' 67 w (.agg #[.int .i64 36, .string ⟨#[]⟩, .int .i64 nu, .int .i64 po, .slice A k.len cap, .int .i64 tk, .string tn, .int .i64 rf, .int .i64 up]) (exOk nmv ⟨36, ⟨#[]⟩, nu, po, tk, tn, rf, up⟩ k) = CB' 67 w (.agg #[.int .i64 36, .string ⟨#[]⟩, .int .i64 nu, .int .i64 po, .slice A n cap, .int .i64 tk, .string tn, .int .i64 rf, .int .i64 up]) (exOk nmv ⟨36, ⟨#[]⟩, nu, po, tk, tn, rf, up⟩ k) by rw [hn]]
  have HB0 : Hid (Below w.heap.size w (w.alloc (.cells #[.int .i64 36, .string ⟨#[]⟩, .int .i64 nu, .int .i64 po, .slice A n cap, .int .i64 tk, .string tn, .int .i64 rf, .int .i64 up] 26))) := Lib.hid (b1 w _)
  have HZ0 : Hid (w.heap.size < (w.alloc (.cells #[.int .i64 36, .string ⟨#[]⟩, .int .i64 nu, .int .i64 po, .slice A n cap, .int .i64 tk, .string tn, .int .i64 rf, .int .i64 up] 26)).heap.size) := Lib.hid (by simp)
  clear hl hn
  go_enter Tryz.func67, Tryz.ntmps67
  go_wp2
  go_ret
  exact ⟨ret_bool HX.out.symm, HB0.out⟩
set_option maxRecDepth 100000 in
set_option maxHeartbeats 4000000 in
theorem ie_36qf (nu po tk rf up : Int) (tn : ByteArray) (tx : ByteArray) (A : Option Addr) (cap : Nat) (k : Fo) (w : World) (HT : Hid ((tx.data.toList == []) = false)) (t1 : (tx.toList == []) = false) (t2 : tx.toList.isEmpty = false) : CB' 67 w (.agg #[.int .i64 36, .string tx, .int .i64 nu, .int .i64 po, .slice A k.len cap, .int .i64 tk, .string tn, .int .i64 rf, .int .i64 up]) (exOk nmv ⟨36, tx, nu, po, tk, tn, rf, up⟩ k) := by
  have HX : Hid (exOk nmv ⟨36, tx, nu, po, tk, tn, rf, up⟩ k = false) := Lib.hid (by rw [exq_36, HT.out, Bool.false_and, Bool.false_and])
  obtain ⟨n, hn⟩ : ∃ n, k.len = n := ⟨_, rfl⟩
  rw [hn]
  have HB0 : Hid (Below w.heap.size w (w.alloc (.cells #[.int .i64 36, .string tx, .int .i64 nu, .int .i64 po, .slice A n cap, .int .i64 tk, .string tn, .int .i64 rf, .int .i64 up] 26))) := Lib.hid (b1 w _)
  have HZ0 : Hid (w.heap.size < (w.alloc (.cells #[.int .i64 36, .string tx, .int .i64 nu, .int .i64 po, .slice A n cap, .int .i64 tk, .string tn, .int .i64 rf, .int .i64 up] 26)).heap.size) := Lib.hid (by simp)
  clear hn
  go_enter Tryz.func67, Tryz.ntmps67
  go_wp2
  go_ret
  exact ⟨ret_bool HX.out.symm, HB0.out⟩
theorem exq_37 (nu po tk rf up : Int) (tn : ByteArray) (tx : ByteArray) (k : Fo) : exOk nmv ⟨37, tx, nu, po, tk, tn, rf, up⟩ k = ((tx.data.toList == []) && true && one1 (exOk nmv) k) := by
  rw [exq nmv (l := [isE]) rfl rfl rfl rfl, fitv_one]; rfl
set_option maxRecDepth 100000 in
set_option maxHeartbeats 4000000 in
theorem ie_37py (nu po tk rf up : Int) (tn : ByteArray)  (A : Option Addr) (cap : Nat) (k : Fo) (w : World)  (hl : k.len = 1) (hk : Kids (Lt w.heap.size) w A k) (hE : ∀ h0 k0, k = .cons h0 k0 .nil → ∀ A0 c0, Kids (Lt w.heap.size) w A0 k0 → At 67 w (nv h0 A0 k0.len c0) (exOk nmv h0 k0)) : CB' 67 w (.agg #[.int .i64 37, .string ⟨#[]⟩, .int .i64 nu, .int .i64 po, .slice A k.len cap, .int .i64 tk, .string tn, .int .i64 rf, .int .i64 up]) (exOk nmv ⟨37, ⟨#[]⟩, nu, po, tk, tn, rf, up⟩ k) := by
  obtain ⟨h0, k0, rfl⟩ := is1 hl
  obtain ⟨g, o, A0, c0, rfl, ⟨d0, d1, d2, d3, d4, d5, d6, d7, d8⟩, hk0, hg⟩ := kidv1 hk
  have HC := Lib.hid (hE h0 k0 rfl A0 c0 hk0)
  have HX := Lib.hid (exq_37 nu po tk rf up tn (⟨#[]⟩) (.cons h0 k0 .nil))
  obtain ⟨v, hv⟩ : ∃ v, exOk nmv h0 k0 = v := ⟨_, rfl⟩
  rw [show one1 (exOk nmv) (.cons h0 k0 .nil) = v from hv, show ((⟨#[]⟩ : ByteArray).data.toList == []) = true from rfl, Bool.true_and, Bool.true_and] at HX
  rw [hv] at HC
  have hl1 : (Fo.cons h0 k0 .nil).len = 1 := rfl
  obtain ⟨n0, hn0⟩ : ∃ n, k0.len = n := ⟨_, rfl⟩
  rw [hn0] at HC d4
  rw [hl1]
  have hgn : ¬ g = w.heap.size := by omega
  have hg1 : g < w.heap.size + 1 := by omega
  have HB0 : Hid (Below w.heap.size w (w.alloc (.cells #[.int .i64 37, .string ⟨#[]⟩, .int .i64 nu, .int .i64 po, .slice (some ⟨g, o, none⟩) 1 cap, .int .i64 tk, .string tn, .int .i64 rf, .int .i64 up] 26))) := Lib.hid (b1 w _)
  have HZ0 : Hid (w.heap.size < (w.alloc (.cells #[.int .i64 37, .string ⟨#[]⟩, .int .i64 nu, .int .i64 po, .slice (some ⟨g, o, none⟩) 1 cap, .int .i64 tk, .string tn, .int .i64 rf, .int .i64 up] 26)).heap.size) := Lib.hid (by simp)
  clear hv hn0 hl1 hk hk0 hE hl
  go_enter Tryz.func67, Tryz.ntmps67
  go_wp2_with fail
  refine (HC.out _ HB0.out).mono ?_
  rintro e V1 ⟨rfl, hb⟩
  have HB1 := Lib.hid (HB0.out.trans (hb.mono HB0.out.size))
  obtain ⟨hc1, hf1⟩ := bcell hb
  have hz1 : w.heap.size < V1.heap.size := by have := hb.size; have := HZ0.out; omega
  have HZ1 := Lib.hid hz1
  clear hb
  go_wp2
  go_ret
  exact ⟨ret_bool HX.out.symm, HB1.out⟩
set_option maxRecDepth 100000 in
set_option maxHeartbeats 4000000 in
theorem ie_37pl (nu po tk rf up : Int) (tn : ByteArray)  (A : Option Addr) (cap : Nat) (k : Fo) (w : World)  (hl : ¬ k.len = 1) : CB' 67 w (.agg #[.int .i64 37, .string ⟨#[]⟩, .int .i64 nu, .int .i64 po, .slice A k.len cap, .int .i64 tk, .string tn, .int .i64 rf, .int .i64 up]) (exOk nmv ⟨37, ⟨#[]⟩, nu, po, tk, tn, rf, up⟩ k) := by
  have HX : Hid (exOk nmv ⟨37, ⟨#[]⟩, nu, po, tk, tn, rf, up⟩ k = false) := Lib.hid (by rw [exq_37, one1_len hl, Bool.and_false])
  obtain ⟨n, hn⟩ : ∃ n, k.len = n := ⟨_, rfl⟩
  rw [hn] at hl
  have hne : ((n : Int) == 1) = false := by rw [ieq1]; simpa using hl
  rw [show CB' 67 w (.agg #[.int .i64 37, .string ⟨#[]⟩, .int .i64 nu, .int .i64 po, .slice A k.len cap, .int .i64 tk, .string tn, .int .i64 rf, .int .i64 up]) (exOk nmv ⟨37, ⟨#[]⟩, nu, po, tk, tn, rf, up⟩ k) = CB' 67 w (.agg #[.int .i64 37, .string ⟨#[]⟩, .int .i64 nu, .int .i64 po, .slice A n cap, .int .i64 tk, .string tn, .int .i64 rf, .int .i64 up]) (exOk nmv ⟨37, ⟨#[]⟩, nu, po, tk, tn, rf, up⟩ k) by rw [hn]]
  have HB0 : Hid (Below w.heap.size w (w.alloc (.cells #[.int .i64 37, .string ⟨#[]⟩, .int .i64 nu, .int .i64 po, .slice A n cap, .int .i64 tk, .string tn, .int .i64 rf, .int .i64 up] 26))) := Lib.hid (b1 w _)
  have HZ0 : Hid (w.heap.size < (w.alloc (.cells #[.int .i64 37, .string ⟨#[]⟩, .int .i64 nu, .int .i64 po, .slice A n cap, .int .i64 tk, .string tn, .int .i64 rf, .int .i64 up] 26)).heap.size) := Lib.hid (by simp)
  clear hl hn
  go_enter Tryz.func67, Tryz.ntmps67
  go_wp2
  go_ret
  exact ⟨ret_bool HX.out.symm, HB0.out⟩
set_option maxRecDepth 100000 in
set_option maxHeartbeats 4000000 in
theorem ie_37qf (nu po tk rf up : Int) (tn : ByteArray) (tx : ByteArray) (A : Option Addr) (cap : Nat) (k : Fo) (w : World) (HT : Hid ((tx.data.toList == []) = false)) (t1 : (tx.toList == []) = false) (t2 : tx.toList.isEmpty = false) : CB' 67 w (.agg #[.int .i64 37, .string tx, .int .i64 nu, .int .i64 po, .slice A k.len cap, .int .i64 tk, .string tn, .int .i64 rf, .int .i64 up]) (exOk nmv ⟨37, tx, nu, po, tk, tn, rf, up⟩ k) := by
  have HX : Hid (exOk nmv ⟨37, tx, nu, po, tk, tn, rf, up⟩ k = false) := Lib.hid (by rw [exq_37, HT.out, Bool.false_and, Bool.false_and])
  obtain ⟨n, hn⟩ : ∃ n, k.len = n := ⟨_, rfl⟩
  rw [hn]
  have HB0 : Hid (Below w.heap.size w (w.alloc (.cells #[.int .i64 37, .string tx, .int .i64 nu, .int .i64 po, .slice A n cap, .int .i64 tk, .string tn, .int .i64 rf, .int .i64 up] 26))) := Lib.hid (b1 w _)
  have HZ0 : Hid (w.heap.size < (w.alloc (.cells #[.int .i64 37, .string tx, .int .i64 nu, .int .i64 po, .slice A n cap, .int .i64 tk, .string tn, .int .i64 rf, .int .i64 up] 26)).heap.size) := Lib.hid (by simp)
  clear hn
  go_enter Tryz.func67, Tryz.ntmps67
  go_wp2
  go_ret
  exact ⟨ret_bool HX.out.symm, HB0.out⟩
theorem exq_28 (nu po tk rf up : Int) (tn : ByteArray) (tx : ByteArray) (k : Fo) : exOk nmv ⟨28, tx, nu, po, tk, tn, rf, up⟩ k = (nmv tx && true && one1 (exOk nmv) k) := by
  rw [exq nmv (l := [isE]) rfl rfl rfl rfl, fitv_one]; rfl
set_option maxRecDepth 100000 in
set_option maxHeartbeats 4000000 in
theorem ie_28ny (nu po tk rf up : Int) (tn : ByteArray) (tx : ByteArray) (A : Option Addr) (cap : Nat) (k : Fo) (w : World) (HT : Hid (nmv tx = true)) (HN : Hid (∀ W, Calls Tryz.prog 45 #[.string tx] W fun e w' => e = .returned (.bool true) ∧ W = w')) (hl : k.len = 1) (hk : Kids (Lt w.heap.size) w A k) (hE : ∀ h0 k0, k = .cons h0 k0 .nil → ∀ A0 c0, Kids (Lt w.heap.size) w A0 k0 → At 67 w (nv h0 A0 k0.len c0) (exOk nmv h0 k0)) : CB' 67 w (.agg #[.int .i64 28, .string tx, .int .i64 nu, .int .i64 po, .slice A k.len cap, .int .i64 tk, .string tn, .int .i64 rf, .int .i64 up]) (exOk nmv ⟨28, tx, nu, po, tk, tn, rf, up⟩ k) := by
  obtain ⟨h0, k0, rfl⟩ := is1 hl
  obtain ⟨g, o, A0, c0, rfl, ⟨d0, d1, d2, d3, d4, d5, d6, d7, d8⟩, hk0, hg⟩ := kidv1 hk
  have HC := Lib.hid (hE h0 k0 rfl A0 c0 hk0)
  have HX := Lib.hid (exq_28 nu po tk rf up tn (tx) (.cons h0 k0 .nil))
  obtain ⟨v, hv⟩ : ∃ v, exOk nmv h0 k0 = v := ⟨_, rfl⟩
  rw [show one1 (exOk nmv) (.cons h0 k0 .nil) = v from hv, HT.out, Bool.true_and, Bool.true_and] at HX
  rw [hv] at HC
  have hl1 : (Fo.cons h0 k0 .nil).len = 1 := rfl
  obtain ⟨n0, hn0⟩ : ∃ n, k0.len = n := ⟨_, rfl⟩
  rw [hn0] at HC d4
  rw [hl1]
  have hgn : ¬ g = w.heap.size := by omega
  have hg1 : g < w.heap.size + 1 := by omega
  have HB0 : Hid (Below w.heap.size w (w.alloc (.cells #[.int .i64 28, .string tx, .int .i64 nu, .int .i64 po, .slice (some ⟨g, o, none⟩) 1 cap, .int .i64 tk, .string tn, .int .i64 rf, .int .i64 up] 26))) := Lib.hid (b1 w _)
  have HZ0 : Hid (w.heap.size < (w.alloc (.cells #[.int .i64 28, .string tx, .int .i64 nu, .int .i64 po, .slice (some ⟨g, o, none⟩) 1 cap, .int .i64 tk, .string tn, .int .i64 rf, .int .i64 up] 26)).heap.size) := Lib.hid (by simp)
  clear hv hn0 hl1 hk hk0 hE hl
  go_enter Tryz.func67, Tryz.ntmps67
  go_wp2_with fail
  refine (HN.out _).mono ?_
  rintro e W ⟨rfl, rfl⟩
  go_wp2_with fail
  refine (HC.out _ HB0.out).mono ?_
  rintro e V1 ⟨rfl, hb⟩
  have HB1 := Lib.hid (HB0.out.trans (hb.mono HB0.out.size))
  obtain ⟨hc1, hf1⟩ := bcell hb
  have hz1 : w.heap.size < V1.heap.size := by have := hb.size; have := HZ0.out; omega
  have HZ1 := Lib.hid hz1
  clear hb
  go_wp2
  go_ret
  exact ⟨ret_bool HX.out.symm, HB1.out⟩
set_option maxRecDepth 100000 in
set_option maxHeartbeats 4000000 in
theorem ie_28nl (nu po tk rf up : Int) (tn : ByteArray) (tx : ByteArray) (A : Option Addr) (cap : Nat) (k : Fo) (w : World) (HT : Hid (nmv tx = true)) (HN : Hid (∀ W, Calls Tryz.prog 45 #[.string tx] W fun e w' => e = .returned (.bool true) ∧ W = w')) (hl : ¬ k.len = 1) : CB' 67 w (.agg #[.int .i64 28, .string tx, .int .i64 nu, .int .i64 po, .slice A k.len cap, .int .i64 tk, .string tn, .int .i64 rf, .int .i64 up]) (exOk nmv ⟨28, tx, nu, po, tk, tn, rf, up⟩ k) := by
  have HX : Hid (exOk nmv ⟨28, tx, nu, po, tk, tn, rf, up⟩ k = false) := Lib.hid (by rw [exq_28, one1_len hl, Bool.and_false])
  obtain ⟨n, hn⟩ : ∃ n, k.len = n := ⟨_, rfl⟩
  rw [hn] at hl
  have hne : ((n : Int) == 1) = false := by rw [ieq1]; simpa using hl
  rw [show CB' 67 w (.agg #[.int .i64 28, .string tx, .int .i64 nu, .int .i64 po, .slice A k.len cap, .int .i64 tk, .string tn, .int .i64 rf, .int .i64 up]) (exOk nmv ⟨28, tx, nu, po, tk, tn, rf, up⟩ k) = CB' 67 w (.agg #[.int .i64 28, .string tx, .int .i64 nu, .int .i64 po, .slice A n cap, .int .i64 tk, .string tn, .int .i64 rf, .int .i64 up]) (exOk nmv ⟨28, tx, nu, po, tk, tn, rf, up⟩ k) by rw [hn]]
  have HB0 : Hid (Below w.heap.size w (w.alloc (.cells #[.int .i64 28, .string tx, .int .i64 nu, .int .i64 po, .slice A n cap, .int .i64 tk, .string tn, .int .i64 rf, .int .i64 up] 26))) := Lib.hid (b1 w _)
  have HZ0 : Hid (w.heap.size < (w.alloc (.cells #[.int .i64 28, .string tx, .int .i64 nu, .int .i64 po, .slice A n cap, .int .i64 tk, .string tn, .int .i64 rf, .int .i64 up] 26)).heap.size) := Lib.hid (by simp)
  clear hl hn
  go_enter Tryz.func67, Tryz.ntmps67
  go_wp2_with fail
  refine (HN.out _).mono ?_
  rintro e W ⟨rfl, rfl⟩
  go_wp2
  go_ret
  exact ⟨ret_bool HX.out.symm, HB0.out⟩
set_option maxRecDepth 100000 in
set_option maxHeartbeats 4000000 in
theorem ie_28nnf (nu po tk rf up : Int) (tn : ByteArray) (tx : ByteArray) (A : Option Addr) (cap : Nat) (k : Fo) (w : World) (HT : Hid (nmv tx = false)) (HN : Hid (∀ W, Calls Tryz.prog 45 #[.string tx] W fun e w' => e = .returned (.bool false) ∧ W = w')) : CB' 67 w (.agg #[.int .i64 28, .string tx, .int .i64 nu, .int .i64 po, .slice A k.len cap, .int .i64 tk, .string tn, .int .i64 rf, .int .i64 up]) (exOk nmv ⟨28, tx, nu, po, tk, tn, rf, up⟩ k) := by
  have HX : Hid (exOk nmv ⟨28, tx, nu, po, tk, tn, rf, up⟩ k = false) := Lib.hid (by rw [exq_28, HT.out, Bool.false_and, Bool.false_and])
  obtain ⟨n, hn⟩ : ∃ n, k.len = n := ⟨_, rfl⟩
  rw [hn]
  have HB0 : Hid (Below w.heap.size w (w.alloc (.cells #[.int .i64 28, .string tx, .int .i64 nu, .int .i64 po, .slice A n cap, .int .i64 tk, .string tn, .int .i64 rf, .int .i64 up] 26))) := Lib.hid (b1 w _)
  have HZ0 : Hid (w.heap.size < (w.alloc (.cells #[.int .i64 28, .string tx, .int .i64 nu, .int .i64 po, .slice A n cap, .int .i64 tk, .string tn, .int .i64 rf, .int .i64 up] 26)).heap.size) := Lib.hid (by simp)
  clear hn
  go_enter Tryz.func67, Tryz.ntmps67
  go_wp2_with fail
  refine (HN.out _).mono ?_
  rintro e W ⟨rfl, rfl⟩
  go_wp2
  go_ret
  exact ⟨ret_bool HX.out.symm, HB0.out⟩
theorem exq_31 (nu po tk rf up : Int) (tn : ByteArray) (tx : ByteArray) (k : Fo) : exOk nmv ⟨31, tx, nu, po, tk, tn, rf, up⟩ k = ((tx.data.toList == [45] || tx.data.toList == [33]) && true && one1 (exOk nmv) k) := by
  rw [exq nmv (l := [isE]) rfl rfl rfl rfl, fitv_one]; rfl
set_option maxRecDepth 100000 in
set_option maxHeartbeats 4000000 in
theorem ie_31uy (nu po tk rf up : Int) (tn : ByteArray)  (A : Option Addr) (cap : Nat) (k : Fo) (w : World)  (hl : k.len = 1) (hk : Kids (Lt w.heap.size) w A k) (hE : ∀ h0 k0, k = .cons h0 k0 .nil → ∀ A0 c0, Kids (Lt w.heap.size) w A0 k0 → At 67 w (nv h0 A0 k0.len c0) (exOk nmv h0 k0)) : CB' 67 w (.agg #[.int .i64 31, .string ⟨#[45]⟩, .int .i64 nu, .int .i64 po, .slice A k.len cap, .int .i64 tk, .string tn, .int .i64 rf, .int .i64 up]) (exOk nmv ⟨31, ⟨#[45]⟩, nu, po, tk, tn, rf, up⟩ k) := by
  obtain ⟨h0, k0, rfl⟩ := is1 hl
  obtain ⟨g, o, A0, c0, rfl, ⟨d0, d1, d2, d3, d4, d5, d6, d7, d8⟩, hk0, hg⟩ := kidv1 hk
  have HC := Lib.hid (hE h0 k0 rfl A0 c0 hk0)
  have HX := Lib.hid (exq_31 nu po tk rf up tn (⟨#[45]⟩) (.cons h0 k0 .nil))
  obtain ⟨v, hv⟩ : ∃ v, exOk nmv h0 k0 = v := ⟨_, rfl⟩
  rw [show one1 (exOk nmv) (.cons h0 k0 .nil) = v from hv, show ((⟨#[45]⟩ : ByteArray).data.toList == [45] || (⟨#[45]⟩ : ByteArray).data.toList == [33]) = true from rfl, Bool.true_and, Bool.true_and] at HX
  rw [hv] at HC
  have hl1 : (Fo.cons h0 k0 .nil).len = 1 := rfl
  obtain ⟨n0, hn0⟩ : ∃ n, k0.len = n := ⟨_, rfl⟩
  rw [hn0] at HC d4
  rw [hl1]
  have hgn : ¬ g = w.heap.size := by omega
  have hg1 : g < w.heap.size + 1 := by omega
  have HB0 : Hid (Below w.heap.size w (w.alloc (.cells #[.int .i64 31, .string ⟨#[45]⟩, .int .i64 nu, .int .i64 po, .slice (some ⟨g, o, none⟩) 1 cap, .int .i64 tk, .string tn, .int .i64 rf, .int .i64 up] 26))) := Lib.hid (b1 w _)
  have HZ0 : Hid (w.heap.size < (w.alloc (.cells #[.int .i64 31, .string ⟨#[45]⟩, .int .i64 nu, .int .i64 po, .slice (some ⟨g, o, none⟩) 1 cap, .int .i64 tk, .string tn, .int .i64 rf, .int .i64 up] 26)).heap.size) := Lib.hid (by simp)
  clear hv hn0 hl1 hk hk0 hE hl
  go_enter Tryz.func67, Tryz.ntmps67
  go_wp2_with fail
  refine (HC.out _ HB0.out).mono ?_
  rintro e V1 ⟨rfl, hb⟩
  have HB1 := Lib.hid (HB0.out.trans (hb.mono HB0.out.size))
  obtain ⟨hc1, hf1⟩ := bcell hb
  have hz1 : w.heap.size < V1.heap.size := by have := hb.size; have := HZ0.out; omega
  have HZ1 := Lib.hid hz1
  clear hb
  go_wp2
  go_ret
  exact ⟨ret_bool HX.out.symm, HB1.out⟩
set_option maxRecDepth 100000 in
set_option maxHeartbeats 4000000 in
theorem ie_31ul (nu po tk rf up : Int) (tn : ByteArray)  (A : Option Addr) (cap : Nat) (k : Fo) (w : World)  (hl : ¬ k.len = 1) : CB' 67 w (.agg #[.int .i64 31, .string ⟨#[45]⟩, .int .i64 nu, .int .i64 po, .slice A k.len cap, .int .i64 tk, .string tn, .int .i64 rf, .int .i64 up]) (exOk nmv ⟨31, ⟨#[45]⟩, nu, po, tk, tn, rf, up⟩ k) := by
  have HX : Hid (exOk nmv ⟨31, ⟨#[45]⟩, nu, po, tk, tn, rf, up⟩ k = false) := Lib.hid (by rw [exq_31, one1_len hl, Bool.and_false])
  obtain ⟨n, hn⟩ : ∃ n, k.len = n := ⟨_, rfl⟩
  rw [hn] at hl
  have hne : ((n : Int) == 1) = false := by rw [ieq1]; simpa using hl
  rw [show CB' 67 w (.agg #[.int .i64 31, .string ⟨#[45]⟩, .int .i64 nu, .int .i64 po, .slice A k.len cap, .int .i64 tk, .string tn, .int .i64 rf, .int .i64 up]) (exOk nmv ⟨31, ⟨#[45]⟩, nu, po, tk, tn, rf, up⟩ k) = CB' 67 w (.agg #[.int .i64 31, .string ⟨#[45]⟩, .int .i64 nu, .int .i64 po, .slice A n cap, .int .i64 tk, .string tn, .int .i64 rf, .int .i64 up]) (exOk nmv ⟨31, ⟨#[45]⟩, nu, po, tk, tn, rf, up⟩ k) by rw [hn]]
  have HB0 : Hid (Below w.heap.size w (w.alloc (.cells #[.int .i64 31, .string ⟨#[45]⟩, .int .i64 nu, .int .i64 po, .slice A n cap, .int .i64 tk, .string tn, .int .i64 rf, .int .i64 up] 26))) := Lib.hid (b1 w _)
  have HZ0 : Hid (w.heap.size < (w.alloc (.cells #[.int .i64 31, .string ⟨#[45]⟩, .int .i64 nu, .int .i64 po, .slice A n cap, .int .i64 tk, .string tn, .int .i64 rf, .int .i64 up] 26)).heap.size) := Lib.hid (by simp)
  clear hl hn
  go_enter Tryz.func67, Tryz.ntmps67
  go_wp2
  go_ret
  exact ⟨ret_bool HX.out.symm, HB0.out⟩
set_option maxRecDepth 100000 in
set_option maxHeartbeats 4000000 in
theorem ie_31vy (nu po tk rf up : Int) (tn : ByteArray)  (A : Option Addr) (cap : Nat) (k : Fo) (w : World)  (hl : k.len = 1) (hk : Kids (Lt w.heap.size) w A k) (hE : ∀ h0 k0, k = .cons h0 k0 .nil → ∀ A0 c0, Kids (Lt w.heap.size) w A0 k0 → At 67 w (nv h0 A0 k0.len c0) (exOk nmv h0 k0)) : CB' 67 w (.agg #[.int .i64 31, .string ⟨#[33]⟩, .int .i64 nu, .int .i64 po, .slice A k.len cap, .int .i64 tk, .string tn, .int .i64 rf, .int .i64 up]) (exOk nmv ⟨31, ⟨#[33]⟩, nu, po, tk, tn, rf, up⟩ k) := by
  obtain ⟨h0, k0, rfl⟩ := is1 hl
  obtain ⟨g, o, A0, c0, rfl, ⟨d0, d1, d2, d3, d4, d5, d6, d7, d8⟩, hk0, hg⟩ := kidv1 hk
  have HC := Lib.hid (hE h0 k0 rfl A0 c0 hk0)
  have HX := Lib.hid (exq_31 nu po tk rf up tn (⟨#[33]⟩) (.cons h0 k0 .nil))
  obtain ⟨v, hv⟩ : ∃ v, exOk nmv h0 k0 = v := ⟨_, rfl⟩
  rw [show one1 (exOk nmv) (.cons h0 k0 .nil) = v from hv, show ((⟨#[33]⟩ : ByteArray).data.toList == [45] || (⟨#[33]⟩ : ByteArray).data.toList == [33]) = true from rfl, Bool.true_and, Bool.true_and] at HX
  rw [hv] at HC
  have hl1 : (Fo.cons h0 k0 .nil).len = 1 := rfl
  obtain ⟨n0, hn0⟩ : ∃ n, k0.len = n := ⟨_, rfl⟩
  rw [hn0] at HC d4
  rw [hl1]
  have hgn : ¬ g = w.heap.size := by omega
  have hg1 : g < w.heap.size + 1 := by omega
  have HB0 : Hid (Below w.heap.size w (w.alloc (.cells #[.int .i64 31, .string ⟨#[33]⟩, .int .i64 nu, .int .i64 po, .slice (some ⟨g, o, none⟩) 1 cap, .int .i64 tk, .string tn, .int .i64 rf, .int .i64 up] 26))) := Lib.hid (b1 w _)
  have HZ0 : Hid (w.heap.size < (w.alloc (.cells #[.int .i64 31, .string ⟨#[33]⟩, .int .i64 nu, .int .i64 po, .slice (some ⟨g, o, none⟩) 1 cap, .int .i64 tk, .string tn, .int .i64 rf, .int .i64 up] 26)).heap.size) := Lib.hid (by simp)
  clear hv hn0 hl1 hk hk0 hE hl
  go_enter Tryz.func67, Tryz.ntmps67
  go_wp2_with fail
  refine (HC.out _ HB0.out).mono ?_
  rintro e V1 ⟨rfl, hb⟩
  have HB1 := Lib.hid (HB0.out.trans (hb.mono HB0.out.size))
  obtain ⟨hc1, hf1⟩ := bcell hb
  have hz1 : w.heap.size < V1.heap.size := by have := hb.size; have := HZ0.out; omega
  have HZ1 := Lib.hid hz1
  clear hb
  go_wp2
  go_ret
  exact ⟨ret_bool HX.out.symm, HB1.out⟩
set_option maxRecDepth 100000 in
set_option maxHeartbeats 4000000 in
theorem ie_31vl (nu po tk rf up : Int) (tn : ByteArray)  (A : Option Addr) (cap : Nat) (k : Fo) (w : World)  (hl : ¬ k.len = 1) : CB' 67 w (.agg #[.int .i64 31, .string ⟨#[33]⟩, .int .i64 nu, .int .i64 po, .slice A k.len cap, .int .i64 tk, .string tn, .int .i64 rf, .int .i64 up]) (exOk nmv ⟨31, ⟨#[33]⟩, nu, po, tk, tn, rf, up⟩ k) := by
  have HX : Hid (exOk nmv ⟨31, ⟨#[33]⟩, nu, po, tk, tn, rf, up⟩ k = false) := Lib.hid (by rw [exq_31, one1_len hl, Bool.and_false])
  obtain ⟨n, hn⟩ : ∃ n, k.len = n := ⟨_, rfl⟩
  rw [hn] at hl
  have hne : ((n : Int) == 1) = false := by rw [ieq1]; simpa using hl
  rw [show CB' 67 w (.agg #[.int .i64 31, .string ⟨#[33]⟩, .int .i64 nu, .int .i64 po, .slice A k.len cap, .int .i64 tk, .string tn, .int .i64 rf, .int .i64 up]) (exOk nmv ⟨31, ⟨#[33]⟩, nu, po, tk, tn, rf, up⟩ k) = CB' 67 w (.agg #[.int .i64 31, .string ⟨#[33]⟩, .int .i64 nu, .int .i64 po, .slice A n cap, .int .i64 tk, .string tn, .int .i64 rf, .int .i64 up]) (exOk nmv ⟨31, ⟨#[33]⟩, nu, po, tk, tn, rf, up⟩ k) by rw [hn]]
  have HB0 : Hid (Below w.heap.size w (w.alloc (.cells #[.int .i64 31, .string ⟨#[33]⟩, .int .i64 nu, .int .i64 po, .slice A n cap, .int .i64 tk, .string tn, .int .i64 rf, .int .i64 up] 26))) := Lib.hid (b1 w _)
  have HZ0 : Hid (w.heap.size < (w.alloc (.cells #[.int .i64 31, .string ⟨#[33]⟩, .int .i64 nu, .int .i64 po, .slice A n cap, .int .i64 tk, .string tn, .int .i64 rf, .int .i64 up] 26)).heap.size) := Lib.hid (by simp)
  clear hl hn
  go_enter Tryz.func67, Tryz.ntmps67
  go_wp2
  go_ret
  exact ⟨ret_bool HX.out.symm, HB0.out⟩
set_option maxRecDepth 100000 in
set_option maxHeartbeats 4000000 in
theorem ie_31wf (nu po tk rf up : Int) (tn : ByteArray) (tx : ByteArray) (A : Option Addr) (cap : Nat) (k : Fo) (w : World) (HT : Hid ((tx.data.toList == [45] || tx.data.toList == [33]) = false)) (t1 : (tx.toList == [45]) = false) (t2 : (tx.toList == [33]) = false) : CB' 67 w (.agg #[.int .i64 31, .string tx, .int .i64 nu, .int .i64 po, .slice A k.len cap, .int .i64 tk, .string tn, .int .i64 rf, .int .i64 up]) (exOk nmv ⟨31, tx, nu, po, tk, tn, rf, up⟩ k) := by
  have HX : Hid (exOk nmv ⟨31, tx, nu, po, tk, tn, rf, up⟩ k = false) := Lib.hid (by rw [exq_31, HT.out, Bool.false_and, Bool.false_and])
  obtain ⟨n, hn⟩ : ∃ n, k.len = n := ⟨_, rfl⟩
  rw [hn]
  have HB0 : Hid (Below w.heap.size w (w.alloc (.cells #[.int .i64 31, .string tx, .int .i64 nu, .int .i64 po, .slice A n cap, .int .i64 tk, .string tn, .int .i64 rf, .int .i64 up] 26))) := Lib.hid (b1 w _)
  have HZ0 : Hid (w.heap.size < (w.alloc (.cells #[.int .i64 31, .string tx, .int .i64 nu, .int .i64 po, .slice A n cap, .int .i64 tk, .string tn, .int .i64 rf, .int .i64 up] 26)).heap.size) := Lib.hid (by simp)
  clear hn
  go_enter Tryz.func67, Tryz.ntmps67
  go_wp2
  go_ret
  exact ⟨ret_bool HX.out.symm, HB0.out⟩
theorem one_kd (x : Int) : (fun h k => T.one [x] h k && okT nmv h k) = kdOk nmv x := by
  funext h k
  unfold T.one kdOk
  by_cases e : h.kind = x <;> simp [e]
theorem exq_38 (nu po tk rf up : Int) (tn : ByteArray) (tx : ByteArray) (k : Fo) : exOk nmv ⟨38, tx, nu, po, tk, tn, rf, up⟩ k = ((tx.data.toList == []) && true && one1 (kdOk nmv 10) k) := by
  rw [exq nmv (l := [T.one [10]]) rfl rfl rfl rfl, fitv_one, one_kd]; rfl
set_option maxRecDepth 100000 in
set_option maxHeartbeats 4000000 in
theorem ie_38py (nu po tk rf up : Int) (tn : ByteArray)  (A : Option Addr) (cap : Nat) (k : Fo) (w : World)  (hl : k.len = 1) (hk : Kids (Lt w.heap.size) w A k) (hE : ∀ h0 k0, k = .cons h0 k0 .nil → ∀ A0 c0, Kids (Lt w.heap.size) w A0 k0 → At 50 w (nv h0 A0 k0.len c0) (kdOk nmv 10 h0 k0)) : CB' 67 w (.agg #[.int .i64 38, .string ⟨#[]⟩, .int .i64 nu, .int .i64 po, .slice A k.len cap, .int .i64 tk, .string tn, .int .i64 rf, .int .i64 up]) (exOk nmv ⟨38, ⟨#[]⟩, nu, po, tk, tn, rf, up⟩ k) := by
  obtain ⟨h0, k0, rfl⟩ := is1 hl
  obtain ⟨g, o, A0, c0, rfl, ⟨d0, d1, d2, d3, d4, d5, d6, d7, d8⟩, hk0, hg⟩ := kidv1 hk
  have HC := Lib.hid (hE h0 k0 rfl A0 c0 hk0)
  have HX := Lib.hid (exq_38 nu po tk rf up tn (⟨#[]⟩) (.cons h0 k0 .nil))
  obtain ⟨v, hv⟩ : ∃ v, kdOk nmv 10 h0 k0 = v := ⟨_, rfl⟩
  rw [show one1 (kdOk nmv 10) (.cons h0 k0 .nil) = v from hv, show ((⟨#[]⟩ : ByteArray).data.toList == []) = true from rfl, Bool.true_and, Bool.true_and] at HX
  rw [hv] at HC
  have hl1 : (Fo.cons h0 k0 .nil).len = 1 := rfl
  obtain ⟨n0, hn0⟩ : ∃ n, k0.len = n := ⟨_, rfl⟩
  rw [hn0] at HC d4
  rw [hl1]
  have hgn : ¬ g = w.heap.size := by omega
  have hg1 : g < w.heap.size + 1 := by omega
  have HB0 : Hid (Below w.heap.size w (w.alloc (.cells #[.int .i64 38, .string ⟨#[]⟩, .int .i64 nu, .int .i64 po, .slice (some ⟨g, o, none⟩) 1 cap, .int .i64 tk, .string tn, .int .i64 rf, .int .i64 up] 26))) := Lib.hid (b1 w _)
  have HZ0 : Hid (w.heap.size < (w.alloc (.cells #[.int .i64 38, .string ⟨#[]⟩, .int .i64 nu, .int .i64 po, .slice (some ⟨g, o, none⟩) 1 cap, .int .i64 tk, .string tn, .int .i64 rf, .int .i64 up] 26)).heap.size) := Lib.hid (by simp)
  clear hv hn0 hl1 hk hk0 hE hl
  go_enter Tryz.func67, Tryz.ntmps67
  go_wp2_with fail
  refine (HC.out _ HB0.out).mono ?_
  rintro e V1 ⟨rfl, hb⟩
  have HB1 := Lib.hid (HB0.out.trans (hb.mono HB0.out.size))
  obtain ⟨hc1, hf1⟩ := bcell hb
  have hz1 : w.heap.size < V1.heap.size := by have := hb.size; have := HZ0.out; omega
  have HZ1 := Lib.hid hz1
  clear hb
  go_wp2
  go_ret
  exact ⟨ret_bool HX.out.symm, HB1.out⟩
set_option maxRecDepth 100000 in
set_option maxHeartbeats 4000000 in
theorem ie_38pl (nu po tk rf up : Int) (tn : ByteArray)  (A : Option Addr) (cap : Nat) (k : Fo) (w : World)  (hl : ¬ k.len = 1) : CB' 67 w (.agg #[.int .i64 38, .string ⟨#[]⟩, .int .i64 nu, .int .i64 po, .slice A k.len cap, .int .i64 tk, .string tn, .int .i64 rf, .int .i64 up]) (exOk nmv ⟨38, ⟨#[]⟩, nu, po, tk, tn, rf, up⟩ k) := by
  have HX : Hid (exOk nmv ⟨38, ⟨#[]⟩, nu, po, tk, tn, rf, up⟩ k = false) := Lib.hid (by rw [exq_38, one1_len hl, Bool.and_false])
  obtain ⟨n, hn⟩ : ∃ n, k.len = n := ⟨_, rfl⟩
  rw [hn] at hl
  have hne : ((n : Int) == 1) = false := by rw [ieq1]; simpa using hl
  rw [show CB' 67 w (.agg #[.int .i64 38, .string ⟨#[]⟩, .int .i64 nu, .int .i64 po, .slice A k.len cap, .int .i64 tk, .string tn, .int .i64 rf, .int .i64 up]) (exOk nmv ⟨38, ⟨#[]⟩, nu, po, tk, tn, rf, up⟩ k) = CB' 67 w (.agg #[.int .i64 38, .string ⟨#[]⟩, .int .i64 nu, .int .i64 po, .slice A n cap, .int .i64 tk, .string tn, .int .i64 rf, .int .i64 up]) (exOk nmv ⟨38, ⟨#[]⟩, nu, po, tk, tn, rf, up⟩ k) by rw [hn]]
  have HB0 : Hid (Below w.heap.size w (w.alloc (.cells #[.int .i64 38, .string ⟨#[]⟩, .int .i64 nu, .int .i64 po, .slice A n cap, .int .i64 tk, .string tn, .int .i64 rf, .int .i64 up] 26))) := Lib.hid (b1 w _)
  have HZ0 : Hid (w.heap.size < (w.alloc (.cells #[.int .i64 38, .string ⟨#[]⟩, .int .i64 nu, .int .i64 po, .slice A n cap, .int .i64 tk, .string tn, .int .i64 rf, .int .i64 up] 26)).heap.size) := Lib.hid (by simp)
  clear hl hn
  go_enter Tryz.func67, Tryz.ntmps67
  go_wp2
  go_ret
  exact ⟨ret_bool HX.out.symm, HB0.out⟩
set_option maxRecDepth 100000 in
set_option maxHeartbeats 4000000 in
theorem ie_38qf (nu po tk rf up : Int) (tn : ByteArray) (tx : ByteArray) (A : Option Addr) (cap : Nat) (k : Fo) (w : World) (HT : Hid ((tx.data.toList == []) = false)) (t1 : (tx.toList == []) = false) (t2 : tx.toList.isEmpty = false) : CB' 67 w (.agg #[.int .i64 38, .string tx, .int .i64 nu, .int .i64 po, .slice A k.len cap, .int .i64 tk, .string tn, .int .i64 rf, .int .i64 up]) (exOk nmv ⟨38, tx, nu, po, tk, tn, rf, up⟩ k) := by
  have HX : Hid (exOk nmv ⟨38, tx, nu, po, tk, tn, rf, up⟩ k = false) := Lib.hid (by rw [exq_38, HT.out, Bool.false_and, Bool.false_and])
  obtain ⟨n, hn⟩ : ∃ n, k.len = n := ⟨_, rfl⟩
  rw [hn]
  have HB0 : Hid (Below w.heap.size w (w.alloc (.cells #[.int .i64 38, .string tx, .int .i64 nu, .int .i64 po, .slice A n cap, .int .i64 tk, .string tn, .int .i64 rf, .int .i64 up] 26))) := Lib.hid (b1 w _)
  have HZ0 : Hid (w.heap.size < (w.alloc (.cells #[.int .i64 38, .string tx, .int .i64 nu, .int .i64 po, .slice A n cap, .int .i64 tk, .string tn, .int .i64 rf, .int .i64 up] 26)).heap.size) := Lib.hid (by simp)
  clear hn
  go_enter Tryz.func67, Tryz.ntmps67
  go_wp2
  go_ret
  exact ⟨ret_bool HX.out.symm, HB0.out⟩
set_option maxRecDepth 100000 in
set_option maxHeartbeats 4000000 in
theorem exprs_any (F : Fo) (A : Option Addr) (cap : Nat) (w : World) (hfl : F.len ≤ 1048576) (hk : Kids (Lt w.heap.size) w A F) (hE : F.All fun h k => ∀ A cap, Kids (Lt w.heap.size) w A k → At 67 w (nv h A k.len cap) (exOk nmv h k)) : CB' 89 w (.slice A F.len cap) (allB (exOk nmv) F) := by
  have HS := Lib.hid (Rest.start hk)
  have HE := Lib.hid hE
  clear hk hE
  go_enter Tryz.func89, Tryz.ntmps89
  go_wp2
  go_loopw [3] (fun ix wr => ∃ (i : Nat) (R : Fo), ix = .int .i64 (i : Int) ∧ Rest (Lt w.heap.size) w A F i R ∧ (allB (exOk nmv) F = allB (exOk nmv) R) ∧ (R.All fun h k => ∀ A cap, Kids (Lt w.heap.size) w A k → At 67 w (nv h A k.len cap) (exOk nmv h k)) ∧ Below w.heap.size w wr) (fun ix _ => F.len - (intOf ix).toNat)
  case atStart => exact ⟨0, F, rfl, HS.out, rfl, HE.out, Below.refl _ _⟩
  case round =>
    obtain ⟨i, R, rfl, hr, hq, hP, hb⟩ := hrel
    have HQ := Lib.hid hq
    have HB := Lib.hid hb
    clear HS HE hq
    cases R with
    | nil =>
      have hi := hr.stop
      subst hi
      clear hr hP hb
      go_wp2
      go_ret
      exact ⟨ret_bool HQ.out.symm, HB.out⟩
    | cons h' k' r =>
      obtain ⟨g, o, A', cap', rfl, ⟨c0, c1, c2, c3, c4, c5, c6, c7, c8⟩, hkc, hk', hr', hi1, hg⟩ := (hr.below hb (Nat.le_refl _)).next
      have hk2 := hr.next
      obtain ⟨g2, o2, A2, cap2, e2, h92, _, hk2', hr2, _, _⟩ := hk2
      cases e2
      have eA : A' = A2 ∧ cap' = cap2 := by
        have e4 := c4
        rw [(hb.cell (p := ⟨g, o + i * 9 + 4, none⟩) (by show g < _; exact hg)), h92.c4] at e4
        cases e4; exact ⟨rfl, rfl⟩
      obtain ⟨rfl, rfl⟩ := eA
      obtain ⟨p1, p2⟩ := hP
      have HC := Lib.hid (p1 A' cap' hk2' wr hb)
      have HP2 := Lib.hid p2
      have HR2 := Lib.hid hr2
      obtain ⟨v, hv⟩ : ∃ v, exOk nmv h' k' = v := ⟨_, rfl⟩
      have HV := Lib.hid hv
      rw [hv] at HC
      obtain ⟨l, hl⟩ : ∃ l, k'.len = l := ⟨_, rfl⟩
      rw [hl] at HC c4
      have hj : (i : Int) < (F.len : Int) := by omega
      have hj0 : (0 : Int) ≤ (i : Int) := by omega
      clear hr hb hr' hk' hkc hg h92 hk2' hr2 p1 p2 hv hl
      go_wp2_with fail
      refine HC.out.mono ?_
      rintro e V ⟨rfl, hb⟩
      have HB2 := Lib.hid (HB.out.trans (hb.mono HB.out.size))
      clear hb c0 c1 c2 c3 c4 c5 c6 c7 c8
      cases v with
      | true =>
        go_wp2_with fail
        go_roundw
        case rel => exact ⟨i + 1, r, by go_num, HR2.out, by rw [HQ.out]; show (exOk nmv h' k' && _) = _; rw [HV.out]; rfl, HP2.out, HB2.out⟩
        case measure => simp [intOf]; omega
      | false =>
        go_wp2
        go_ret
        exact ⟨ret_bool (by rw [HQ.out]; show _ = (exOk nmv h' k' && _); rw [HV.out]; rfl), HB2.out⟩
theorem exq_29 (nu po tk rf up : Int) (tn : ByteArray) (tx : ByteArray) (k : Fo) : exOk nmv ⟨29, tx, nu, po, tk, tn, rf, up⟩ k = ((tx.data.toList == []) && true && two2 (exOk nmv) (exOk nmv) k) := by
  rw [exq nmv (l := [isE, isE]) rfl rfl rfl rfl, fitv_two]; rfl
set_option maxRecDepth 100000 in
set_option maxHeartbeats 4000000 in
theorem ie_29py (nu po tk rf up : Int) (tn : ByteArray)  (A : Option Addr) (cap : Nat) (k : Fo) (w : World)  (hl : k.len = 2) (hL : At 89 w (.slice A k.len cap) (allB (exOk nmv) k)) : CB' 67 w (.agg #[.int .i64 29, .string ⟨#[]⟩, .int .i64 nu, .int .i64 po, .slice A k.len cap, .int .i64 tk, .string tn, .int .i64 rf, .int .i64 up]) (exOk nmv ⟨29, ⟨#[]⟩, nu, po, tk, tn, rf, up⟩ k) := by
  have HX := Lib.hid (exq_29 nu po tk rf up tn (⟨#[]⟩) k)
  rw [two2_all hl, show ((⟨#[]⟩ : ByteArray).data.toList == []) = true from rfl, Bool.true_and, Bool.true_and] at HX
  obtain ⟨v, hv⟩ : ∃ v, allB (exOk nmv) k = v := ⟨_, rfl⟩
  rw [hv] at HX hL
  rw [hl] at hL ⊢
  have HC := Lib.hid hL
  have HB0 : Hid (Below w.heap.size w (w.alloc (.cells #[.int .i64 29, .string ⟨#[]⟩, .int .i64 nu, .int .i64 po, .slice A 2 cap, .int .i64 tk, .string tn, .int .i64 rf, .int .i64 up] 26))) := Lib.hid (b1 w _)
  have HZ0 : Hid (w.heap.size < (w.alloc (.cells #[.int .i64 29, .string ⟨#[]⟩, .int .i64 nu, .int .i64 po, .slice A 2 cap, .int .i64 tk, .string tn, .int .i64 rf, .int .i64 up] 26)).heap.size) := Lib.hid (by simp)
  clear hv hl hL
  go_enter Tryz.func67, Tryz.ntmps67
  go_wp2_with fail
  refine (HC.out _ HB0.out).mono ?_
  rintro e V1 ⟨rfl, hb⟩
  have HB1 := Lib.hid (HB0.out.trans (hb.mono HB0.out.size))
  obtain ⟨hc1, hf1⟩ := bcell hb
  have hz1 : w.heap.size < V1.heap.size := by have := hb.size; have := HZ0.out; omega
  have HZ1 := Lib.hid hz1
  clear hb
  go_wp2
  go_ret
  exact ⟨ret_bool HX.out.symm, HB1.out⟩
set_option maxRecDepth 100000 in
set_option maxHeartbeats 4000000 in
theorem ie_29pl (nu po tk rf up : Int) (tn : ByteArray)  (A : Option Addr) (cap : Nat) (k : Fo) (w : World)  (hl : ¬ k.len = 2) : CB' 67 w (.agg #[.int .i64 29, .string ⟨#[]⟩, .int .i64 nu, .int .i64 po, .slice A k.len cap, .int .i64 tk, .string tn, .int .i64 rf, .int .i64 up]) (exOk nmv ⟨29, ⟨#[]⟩, nu, po, tk, tn, rf, up⟩ k) := by
  have HX : Hid (exOk nmv ⟨29, ⟨#[]⟩, nu, po, tk, tn, rf, up⟩ k = false) := Lib.hid (by rw [exq_29, two2_len hl, Bool.and_false])
  obtain ⟨n, hn⟩ : ∃ n, k.len = n := ⟨_, rfl⟩
  rw [hn] at hl
  have hne : ((n : Int) == 2) = false := by rw [ieq2]; simpa using hl
  rw [show CB' 67 w (.agg #[.int .i64 29, .string ⟨#[]⟩, .int .i64 nu, .int .i64 po, .slice A k.len cap, .int .i64 tk, .string tn, .int .i64 rf, .int .i64 up]) (exOk nmv ⟨29, ⟨#[]⟩, nu, po, tk, tn, rf, up⟩ k) = CB' 67 w (.agg #[.int .i64 29, .string ⟨#[]⟩, .int .i64 nu, .int .i64 po, .slice A n cap, .int .i64 tk, .string tn, .int .i64 rf, .int .i64 up]) (exOk nmv ⟨29, ⟨#[]⟩, nu, po, tk, tn, rf, up⟩ k) by rw [hn]]
  have HB0 : Hid (Below w.heap.size w (w.alloc (.cells #[.int .i64 29, .string ⟨#[]⟩, .int .i64 nu, .int .i64 po, .slice A n cap, .int .i64 tk, .string tn, .int .i64 rf, .int .i64 up] 26))) := Lib.hid (b1 w _)
  have HZ0 : Hid (w.heap.size < (w.alloc (.cells #[.int .i64 29, .string ⟨#[]⟩, .int .i64 nu, .int .i64 po, .slice A n cap, .int .i64 tk, .string tn, .int .i64 rf, .int .i64 up] 26)).heap.size) := Lib.hid (by simp)
  clear hl hn
  go_enter Tryz.func67, Tryz.ntmps67
  go_wp2
  go_ret
  exact ⟨ret_bool HX.out.symm, HB0.out⟩
set_option maxRecDepth 100000 in
set_option maxHeartbeats 4000000 in
theorem ie_29qf (nu po tk rf up : Int) (tn : ByteArray) (tx : ByteArray) (A : Option Addr) (cap : Nat) (k : Fo) (w : World) (HT : Hid ((tx.data.toList == []) = false)) (t1 : (tx.toList == []) = false) (t2 : tx.toList.isEmpty = false) : CB' 67 w (.agg #[.int .i64 29, .string tx, .int .i64 nu, .int .i64 po, .slice A k.len cap, .int .i64 tk, .string tn, .int .i64 rf, .int .i64 up]) (exOk nmv ⟨29, tx, nu, po, tk, tn, rf, up⟩ k) := by
  have HX : Hid (exOk nmv ⟨29, tx, nu, po, tk, tn, rf, up⟩ k = false) := Lib.hid (by rw [exq_29, HT.out, Bool.false_and, Bool.false_and])
  obtain ⟨n, hn⟩ : ∃ n, k.len = n := ⟨_, rfl⟩
  rw [hn]
  have HB0 : Hid (Below w.heap.size w (w.alloc (.cells #[.int .i64 29, .string tx, .int .i64 nu, .int .i64 po, .slice A n cap, .int .i64 tk, .string tn, .int .i64 rf, .int .i64 up] 26))) := Lib.hid (b1 w _)
  have HZ0 : Hid (w.heap.size < (w.alloc (.cells #[.int .i64 29, .string tx, .int .i64 nu, .int .i64 po, .slice A n cap, .int .i64 tk, .string tn, .int .i64 rf, .int .i64 up] 26)).heap.size) := Lib.hid (by simp)
  clear hn
  go_enter Tryz.func67, Tryz.ntmps67
  go_wp2
  go_ret
  exact ⟨ret_bool HX.out.symm, HB0.out⟩
theorem exq_32 (nu po tk rf up : Int) (tn : ByteArray) (tx : ByteArray) (k : Fo) : exOk nmv ⟨32, tx, nu, po, tk, tn, rf, up⟩ k = (T.isBinary tx && true && two2 (exOk nmv) (exOk nmv) k) := by
  rw [exq nmv (l := [isE, isE]) rfl rfl rfl rfl, fitv_two]; rfl
set_option maxRecDepth 100000 in
set_option maxHeartbeats 4000000 in
theorem ie_32by (nu po tk rf up : Int) (tn : ByteArray) (tx : ByteArray) (A : Option Addr) (cap : Nat) (k : Fo) (w : World) (HT : Hid (T.isBinary tx = true)) (HN : Hid (∀ W, Calls Tryz.prog 90 #[.string tx] W fun e w' => e = .returned (.bool true) ∧ W = w')) (hl : k.len = 2) (hL : At 89 w (.slice A k.len cap) (allB (exOk nmv) k)) : CB' 67 w (.agg #[.int .i64 32, .string tx, .int .i64 nu, .int .i64 po, .slice A k.len cap, .int .i64 tk, .string tn, .int .i64 rf, .int .i64 up]) (exOk nmv ⟨32, tx, nu, po, tk, tn, rf, up⟩ k) := by
  have HX := Lib.hid (exq_32 nu po tk rf up tn (tx) k)
  rw [two2_all hl, HT.out, Bool.true_and, Bool.true_and] at HX
  obtain ⟨v, hv⟩ : ∃ v, allB (exOk nmv) k = v := ⟨_, rfl⟩
  rw [hv] at HX hL
  rw [hl] at hL ⊢
  have HC := Lib.hid hL
  have HB0 : Hid (Below w.heap.size w (w.alloc (.cells #[.int .i64 32, .string tx, .int .i64 nu, .int .i64 po, .slice A 2 cap, .int .i64 tk, .string tn, .int .i64 rf, .int .i64 up] 26))) := Lib.hid (b1 w _)
  have HZ0 : Hid (w.heap.size < (w.alloc (.cells #[.int .i64 32, .string tx, .int .i64 nu, .int .i64 po, .slice A 2 cap, .int .i64 tk, .string tn, .int .i64 rf, .int .i64 up] 26)).heap.size) := Lib.hid (by simp)
  clear hv hl hL
  go_enter Tryz.func67, Tryz.ntmps67
  go_wp2_with fail
  refine (HN.out _).mono ?_
  rintro e W ⟨rfl, rfl⟩
  go_wp2_with fail
  refine (HC.out _ HB0.out).mono ?_
  rintro e V1 ⟨rfl, hb⟩
  have HB1 := Lib.hid (HB0.out.trans (hb.mono HB0.out.size))
  obtain ⟨hc1, hf1⟩ := bcell hb
  have hz1 : w.heap.size < V1.heap.size := by have := hb.size; have := HZ0.out; omega
  have HZ1 := Lib.hid hz1
  clear hb
  go_wp2
  go_ret
  exact ⟨ret_bool HX.out.symm, HB1.out⟩
set_option maxRecDepth 100000 in
set_option maxHeartbeats 4000000 in
theorem ie_32bl (nu po tk rf up : Int) (tn : ByteArray) (tx : ByteArray) (A : Option Addr) (cap : Nat) (k : Fo) (w : World) (HT : Hid (T.isBinary tx = true)) (HN : Hid (∀ W, Calls Tryz.prog 90 #[.string tx] W fun e w' => e = .returned (.bool true) ∧ W = w')) (hl : ¬ k.len = 2) : CB' 67 w (.agg #[.int .i64 32, .string tx, .int .i64 nu, .int .i64 po, .slice A k.len cap, .int .i64 tk, .string tn, .int .i64 rf, .int .i64 up]) (exOk nmv ⟨32, tx, nu, po, tk, tn, rf, up⟩ k) := by
  have HX : Hid (exOk nmv ⟨32, tx, nu, po, tk, tn, rf, up⟩ k = false) := Lib.hid (by rw [exq_32, two2_len hl, Bool.and_false])
  obtain ⟨n, hn⟩ : ∃ n, k.len = n := ⟨_, rfl⟩
  rw [hn] at hl
  have hne : ((n : Int) == 2) = false := by rw [ieq2]; simpa using hl
  rw [show CB' 67 w (.agg #[.int .i64 32, .string tx, .int .i64 nu, .int .i64 po, .slice A k.len cap, .int .i64 tk, .string tn, .int .i64 rf, .int .i64 up]) (exOk nmv ⟨32, tx, nu, po, tk, tn, rf, up⟩ k) = CB' 67 w (.agg #[.int .i64 32, .string tx, .int .i64 nu, .int .i64 po, .slice A n cap, .int .i64 tk, .string tn, .int .i64 rf, .int .i64 up]) (exOk nmv ⟨32, tx, nu, po, tk, tn, rf, up⟩ k) by rw [hn]]
  have HB0 : Hid (Below w.heap.size w (w.alloc (.cells #[.int .i64 32, .string tx, .int .i64 nu, .int .i64 po, .slice A n cap, .int .i64 tk, .string tn, .int .i64 rf, .int .i64 up] 26))) := Lib.hid (b1 w _)
  have HZ0 : Hid (w.heap.size < (w.alloc (.cells #[.int .i64 32, .string tx, .int .i64 nu, .int .i64 po, .slice A n cap, .int .i64 tk, .string tn, .int .i64 rf, .int .i64 up] 26)).heap.size) := Lib.hid (by simp)
  clear hl hn
  go_enter Tryz.func67, Tryz.ntmps67
  go_wp2_with fail
  refine (HN.out _).mono ?_
  rintro e W ⟨rfl, rfl⟩
  go_wp2
  go_ret
  exact ⟨ret_bool HX.out.symm, HB0.out⟩
set_option maxRecDepth 100000 in
set_option maxHeartbeats 4000000 in
theorem ie_32bbf (nu po tk rf up : Int) (tn : ByteArray) (tx : ByteArray) (A : Option Addr) (cap : Nat) (k : Fo) (w : World) (HT : Hid (T.isBinary tx = false)) (HN : Hid (∀ W, Calls Tryz.prog 90 #[.string tx] W fun e w' => e = .returned (.bool false) ∧ W = w')) : CB' 67 w (.agg #[.int .i64 32, .string tx, .int .i64 nu, .int .i64 po, .slice A k.len cap, .int .i64 tk, .string tn, .int .i64 rf, .int .i64 up]) (exOk nmv ⟨32, tx, nu, po, tk, tn, rf, up⟩ k) := by
  have HX : Hid (exOk nmv ⟨32, tx, nu, po, tk, tn, rf, up⟩ k = false) := Lib.hid (by rw [exq_32, HT.out, Bool.false_and, Bool.false_and])
  obtain ⟨n, hn⟩ : ∃ n, k.len = n := ⟨_, rfl⟩
  rw [hn]
  have HB0 : Hid (Below w.heap.size w (w.alloc (.cells #[.int .i64 32, .string tx, .int .i64 nu, .int .i64 po, .slice A n cap, .int .i64 tk, .string tn, .int .i64 rf, .int .i64 up] 26))) := Lib.hid (b1 w _)
  have HZ0 : Hid (w.heap.size < (w.alloc (.cells #[.int .i64 32, .string tx, .int .i64 nu, .int .i64 po, .slice A n cap, .int .i64 tk, .string tn, .int .i64 rf, .int .i64 up] 26)).heap.size) := Lib.hid (by simp)
  clear hn
  go_enter Tryz.func67, Tryz.ntmps67
  go_wp2_with fail
  refine (HN.out _).mono ?_
  rintro e W ⟨rfl, rfl⟩
  go_wp2
  go_ret
  exact ⟨ret_bool HX.out.symm, HB0.out⟩
theorem exq_30 (nu po tk rf up : Int) (tn : ByteArray) (tx : ByteArray) (k : Fo) (hl : 1 ≤ k.len) : exOk nmv ⟨30, tx, nu, po, tk, tn, rf, up⟩ k = ((tx.data.toList == []) && true && allB (exOk nmv) k) := by
  rw [exq nmv (l := List.replicate k.len isE) rfl (by show List.replicate (max k.len 1) isE = _; rw [show max k.len 1 = k.len by omega]) rfl rfl, fitv_rep]; rfl
theorem exq_30n (nu po tk rf up : Int) (tn : ByteArray) (tx : ByteArray) : exOk nmv ⟨30, tx, nu, po, tk, tn, rf, up⟩ .nil = false := by
  rw [exq nmv (l := [isE]) rfl rfl rfl rfl, fitv_one]
  show ((tx.data.toList == []) && true && false) = false
  simp
set_option maxRecDepth 100000 in
set_option maxHeartbeats 4000000 in
theorem ie_30y (nu po tk rf up : Int) (tn : ByteArray) (A : Option Addr) (cap : Nat) (k : Fo) (w : World) (hl : 1 ≤ k.len) (hL : At 89 w (.slice A k.len cap) (allB (exOk nmv) k)) : CB' 67 w (.agg #[.int .i64 30, .string ⟨#[]⟩, .int .i64 nu, .int .i64 po, .slice A k.len cap, .int .i64 tk, .string tn, .int .i64 rf, .int .i64 up]) (exOk nmv ⟨30, ⟨#[]⟩, nu, po, tk, tn, rf, up⟩ k) := by
  have HX := Lib.hid (exq_30 nu po tk rf up tn ⟨#[]⟩ k hl)
  rw [show ((⟨#[]⟩ : ByteArray).data.toList == []) = true from rfl, Bool.true_and, Bool.true_and] at HX
  obtain ⟨v, hv⟩ : ∃ v, allB (exOk nmv) k = v := ⟨_, rfl⟩
  obtain ⟨n, hn⟩ : ∃ n, k.len = n := ⟨_, rfl⟩
  rw [hv] at HX hL
  rw [hn] at hl hL ⊢
  have HC := Lib.hid hL
  have hge : (1 : Int) ≤ (n : Int) := by omega
  have HB0 : Hid (Below w.heap.size w (w.alloc (.cells #[.int .i64 30, .string ⟨#[]⟩, .int .i64 nu, .int .i64 po, .slice A n cap, .int .i64 tk, .string tn, .int .i64 rf, .int .i64 up] 26))) := Lib.hid (b1 w _)
  have HZ0 : Hid (w.heap.size < (w.alloc (.cells #[.int .i64 30, .string ⟨#[]⟩, .int .i64 nu, .int .i64 po, .slice A n cap, .int .i64 tk, .string tn, .int .i64 rf, .int .i64 up] 26)).heap.size) := Lib.hid (by simp)
  clear hv hn hl hL
  go_enter Tryz.func67, Tryz.ntmps67
  go_wp2_with fail
  refine (HC.out _ HB0.out).mono ?_
  rintro e V1 ⟨rfl, hb⟩
  have HB1 := Lib.hid (HB0.out.trans (hb.mono HB0.out.size))
  obtain ⟨hc1, hf1⟩ := bcell hb
  have hz1 : w.heap.size < V1.heap.size := by have := hb.size; have := HZ0.out; omega
  have HZ1 := Lib.hid hz1
  clear hb
  go_wp2
  go_ret
  exact ⟨ret_bool HX.out.symm, HB1.out⟩
set_option maxRecDepth 100000 in
set_option maxHeartbeats 4000000 in
theorem ie_30l (nu po tk rf up : Int) (tn : ByteArray) (A : Option Addr) (cap : Nat) (w : World) : CB' 67 w (.agg #[.int .i64 30, .string ⟨#[]⟩, .int .i64 nu, .int .i64 po, .slice A 0 cap, .int .i64 tk, .string tn, .int .i64 rf, .int .i64 up]) (exOk nmv ⟨30, ⟨#[]⟩, nu, po, tk, tn, rf, up⟩ .nil) := by
  have HX := Lib.hid (exq_30n nu po tk rf up tn ⟨#[]⟩)
  have HB0 : Hid (Below w.heap.size w (w.alloc (.cells #[.int .i64 30, .string ⟨#[]⟩, .int .i64 nu, .int .i64 po, .slice A 0 cap, .int .i64 tk, .string tn, .int .i64 rf, .int .i64 up] 26))) := Lib.hid (b1 w _)
  have HZ0 : Hid (w.heap.size < (w.alloc (.cells #[.int .i64 30, .string ⟨#[]⟩, .int .i64 nu, .int .i64 po, .slice A 0 cap, .int .i64 tk, .string tn, .int .i64 rf, .int .i64 up] 26)).heap.size) := Lib.hid (by simp)
  go_enter Tryz.func67, Tryz.ntmps67
  go_wp2
  go_ret
  exact ⟨ret_bool HX.out.symm, HB0.out⟩
set_option maxRecDepth 100000 in
set_option maxHeartbeats 4000000 in
theorem ie_30f (nu po tk rf up : Int) (tn : ByteArray) (tx : ByteArray) (A : Option Addr) (cap : Nat) (k : Fo) (w : World) (HT : Hid ((tx.data.toList == []) = false)) (t1 : (tx.toList == []) = false) (t2 : tx.toList.isEmpty = false) : CB' 67 w (.agg #[.int .i64 30, .string tx, .int .i64 nu, .int .i64 po, .slice A k.len cap, .int .i64 tk, .string tn, .int .i64 rf, .int .i64 up]) (exOk nmv ⟨30, tx, nu, po, tk, tn, rf, up⟩ k) := by
  have HX : Hid (exOk nmv ⟨30, tx, nu, po, tk, tn, rf, up⟩ k = false) := Lib.hid (by
    cases k with
    | nil => exact exq_30n nu po tk rf up tn tx
    | cons a b c => rw [exq_30 nu po tk rf up tn tx _ (by simp only [Fo.len]; omega), HT.out, Bool.false_and, Bool.false_and])
  obtain ⟨n, hn⟩ : ∃ n, k.len = n := ⟨_, rfl⟩
  rw [hn]
  have HB0 : Hid (Below w.heap.size w (w.alloc (.cells #[.int .i64 30, .string tx, .int .i64 nu, .int .i64 po, .slice A n cap, .int .i64 tk, .string tn, .int .i64 rf, .int .i64 up] 26))) := Lib.hid (b1 w _)
  have HZ0 : Hid (w.heap.size < (w.alloc (.cells #[.int .i64 30, .string tx, .int .i64 nu, .int .i64 po, .slice A n cap, .int .i64 tk, .string tn, .int .i64 rf, .int .i64 up] 26)).heap.size) := Lib.hid (by simp)
  clear hn
  go_enter Tryz.func67, Tryz.ntmps67
  go_wp2
  go_ret
  exact ⟨ret_bool HX.out.symm, HB0.out⟩
set_option maxRecDepth 100000 in
set_option maxHeartbeats 4000000 in
theorem ie_no (h : Hd) (A : Option Addr) (cap : Nat) (k : Fo) (w : World) (he : exprK h.kind = false) : CB' 67 w (nv h A k.len cap) (exOk nmv h k) := by
  have HX : Hid (exOk nmv h k = false) := Lib.hid (by unfold exOk; rw [he]; rfl)
  simp only [exprK, Bool.or_eq_false_iff] at he
  obtain ⟨⟨⟨⟨⟨⟨⟨⟨⟨⟨⟨⟨⟨⟨x0, x1⟩, x2⟩, x3⟩, x4⟩, x5⟩, x6⟩, x7⟩, x8⟩, x9⟩, x10⟩, x11⟩, x12⟩, x13⟩, x14⟩ := he
  obtain ⟨n, hn⟩ : ∃ n, k.len = n := ⟨_, rfl⟩
  rw [hn]
  clear hn
  go_enter Tryz.func67, Tryz.ntmps67
  go_wp2
  go_ret
  exact ⟨ret_bool HX.out.symm, b1 _ _⟩
end Go.Proofs.YticbcnhbpbaocaaGreatDoor
