/-
  The walks of the specification's isStmt, by kinds.
-/
import Derived.Test.YticbcnhbpbaocaaGreatDoorRF
set_option linter.all false
namespace Go.Proofs.YticbcnhbpbaocaaGreatDoor
open Go.RowKit T T.Fo
/-- kind's contract at every later world. -/
abbrev AtK (x : Int) (w : World) (v : Value) (b : Bool) : Prop := ∀ V, Below w.heap.size w V → Calls Tryz.prog 93 #[v, .int .i64 x] V fun e w' => e = .returned (.bool b) ∧ Below V.heap.size V w'
theorem one_kd2 : (fun h k => T.one [30, 33] h k && okT nmv h k) = fun h k => (kdOk nmv 30 h k || kdOk nmv 33 h k) := by
  funext h k
  unfold T.one kdOk
  by_cases e : h.kind = 30
  · simp [e]
  · by_cases e3 : h.kind = 33 <;> simp [e, e3]
theorem kind_at {x : Int} (hx : exprK x = true) {h : Hd} {k : Fo} (H : CE h k) {A : Option Addr} {cap : Nat} {w : World} (hk : Kids (Lt w.heap.size) w A k) : AtK x w (nv h A k.len cap) (kdOk nmv x h k) := fun V hV => kind_any x hx h k A cap V (H.at (kids_at' hk hV))
theorem stq_17 (nu po tk rf up : Int) (tn : ByteArray) (tx : ByteArray) (k : Fo) : stOk nmv ⟨17, tx, nu, po, tk, tn, rf, up⟩ k = ((tx.data.toList == []) && true && one1 (exOk nmv) k) := by
  rw [stq nmv (l := [isE]) rfl rfl rfl rfl, fitv_one]; rfl
set_option maxRecDepth 100000 in
set_option maxHeartbeats 4000000 in
theorem is_17py (nu po tk rf up : Int) (tn : ByteArray)  (A : Option Addr) (cap : Nat) (k : Fo) (w : World)  (hl : k.len = 1) (hk : Kids (Lt w.heap.size) w A k) (hE : ∀ h0 k0, k = .cons h0 k0 .nil → ∀ A0 c0, Kids (Lt w.heap.size) w A0 k0 → At 67 w (nv h0 A0 k0.len c0) (exOk nmv h0 k0)) : CB' 69 w (.agg #[.int .i64 17, .string ⟨#[]⟩, .int .i64 nu, .int .i64 po, .slice A k.len cap, .int .i64 tk, .string tn, .int .i64 rf, .int .i64 up]) (stOk nmv ⟨17, ⟨#[]⟩, nu, po, tk, tn, rf, up⟩ k) := by
  obtain ⟨h0, k0, rfl⟩ := is1 hl
  obtain ⟨g, o, A0, c0, rfl, ⟨d0, d1, d2, d3, d4, d5, d6, d7, d8⟩, hk0, hg⟩ := kidv1 hk
  have HC := Lib.hid (hE h0 k0 rfl A0 c0 hk0)
  have HX := Lib.hid (stq_17 nu po tk rf up tn (⟨#[]⟩) (.cons h0 k0 .nil))
  obtain ⟨v, hv⟩ : ∃ v, exOk nmv h0 k0 = v := ⟨_, rfl⟩
  rw [show one1 (exOk nmv) (.cons h0 k0 .nil) = v from hv, show ((⟨#[]⟩ : ByteArray).data.toList == []) = true from rfl, Bool.true_and, Bool.true_and] at HX
  rw [hv] at HC
  have hl1 : (Fo.cons h0 k0 .nil).len = 1 := rfl
  obtain ⟨n0, hn0⟩ : ∃ n, k0.len = n := ⟨_, rfl⟩
  rw [hn0] at HC d4
  rw [hl1]
  have hgn : ¬ g = w.heap.size := by omega
  have hg1 : g < w.heap.size + 1 := by omega
  have HB0 : Hid (Below w.heap.size w (w.alloc (.cells #[.int .i64 17, .string ⟨#[]⟩, .int .i64 nu, .int .i64 po, .slice (some ⟨g, o, none⟩) 1 cap, .int .i64 tk, .string tn, .int .i64 rf, .int .i64 up] 26))) := Lib.hid (b1 w _)
  have HZ0 : Hid (w.heap.size < (w.alloc (.cells #[.int .i64 17, .string ⟨#[]⟩, .int .i64 nu, .int .i64 po, .slice (some ⟨g, o, none⟩) 1 cap, .int .i64 tk, .string tn, .int .i64 rf, .int .i64 up] 26)).heap.size) := Lib.hid (by simp)
  clear hv hn0 hl1 hk hk0 hE hl
  go_enter Tryz.func69, Tryz.ntmps69
  go_wp2_with fail
  refine (HC.out _ HB0.out).mono ?_
  rintro e V1 ⟨rfl, hb⟩
  have HB1 := Lib.hid (HB0.out.trans (hb.mono HB0.out.size))
  obtain ⟨hc1, hf1⟩ := bcell hb
  have hz1 : w.heap.size < V1.heap.size := by have := hb.size; have := HZ0.out; omega
  have HZ1 := Lib.hid hz1
  clear hb
  go_wp2
  go_ret
  exact ⟨ret_bool HX.out.symm, HB1.out⟩
set_option maxRecDepth 100000 in
set_option maxHeartbeats 4000000 in
theorem is_17pl (nu po tk rf up : Int) (tn : ByteArray)  (A : Option Addr) (cap : Nat) (k : Fo) (w : World)  (hl : ¬ k.len = 1) : CB' 69 w (.agg #[.int .i64 17, .string ⟨#[]⟩, .int .i64 nu, .int .i64 po, .slice A k.len cap, .int .i64 tk, .string tn, .int .i64 rf, .int .i64 up]) (stOk nmv ⟨17, ⟨#[]⟩, nu, po, tk, tn, rf, up⟩ k) := by
  have HX : Hid (stOk nmv ⟨17, ⟨#[]⟩, nu, po, tk, tn, rf, up⟩ k = false) := Lib.hid (by rw [stq_17, one1_len hl, Bool.and_false])
  obtain ⟨n, hn⟩ : ∃ n, k.len = n := ⟨_, rfl⟩
  rw [hn] at hl
  have hne : ((n : Int) == 1) = false := by rw [ieq1]; simpa using hl
  rw [show CB' 69 w (.agg #[.int .i64 17, .string ⟨#[]⟩, .int .i64 nu, .int .i64 po, .slice A k.len cap, .int .i64 tk, .string tn, .int .i64 rf, .int .i64 up]) (stOk nmv ⟨17, ⟨#[]⟩, nu, po, tk, tn, rf, up⟩ k) = CB' 69 w (.agg #[.int .i64 17, .string ⟨#[]⟩, .int .i64 nu, .int .i64 po, .slice A n cap, .int .i64 tk, .string tn, .int .i64 rf, .int .i64 up]) (stOk nmv ⟨17, ⟨#[]⟩, nu, po, tk, tn, rf, up⟩ k) by rw [hn]]
  have HB0 : Hid (Below w.heap.size w (w.alloc (.cells #[.int .i64 17, .string ⟨#[]⟩, .int .i64 nu, .int .i64 po, .slice A n cap, .int .i64 tk, .string tn, .int .i64 rf, .int .i64 up] 26))) := Lib.hid (b1 w _)
  have HZ0 : Hid (w.heap.size < (w.alloc (.cells #[.int .i64 17, .string ⟨#[]⟩, .int .i64 nu, .int .i64 po, .slice A n cap, .int .i64 tk, .string tn, .int .i64 rf, .int .i64 up] 26)).heap.size) := Lib.hid (by simp)
  clear hl hn
  go_enter Tryz.func69, Tryz.ntmps69
  go_wp2
  go_ret
  exact ⟨ret_bool HX.out.symm, HB0.out⟩
set_option maxRecDepth 100000 in
set_option maxHeartbeats 4000000 in
theorem is_17qf (nu po tk rf up : Int) (tn : ByteArray) (tx : ByteArray) (A : Option Addr) (cap : Nat) (k : Fo) (w : World) (HT : Hid ((tx.data.toList == []) = false)) (t1 : (tx.toList == []) = false) (t2 : tx.toList.isEmpty = false) : CB' 69 w (.agg #[.int .i64 17, .string tx, .int .i64 nu, .int .i64 po, .slice A k.len cap, .int .i64 tk, .string tn, .int .i64 rf, .int .i64 up]) (stOk nmv ⟨17, tx, nu, po, tk, tn, rf, up⟩ k) := by
  have HX : Hid (stOk nmv ⟨17, tx, nu, po, tk, tn, rf, up⟩ k = false) := Lib.hid (by rw [stq_17, HT.out, Bool.false_and, Bool.false_and])
  obtain ⟨n, hn⟩ : ∃ n, k.len = n := ⟨_, rfl⟩
  rw [hn]
  have HB0 : Hid (Below w.heap.size w (w.alloc (.cells #[.int .i64 17, .string tx, .int .i64 nu, .int .i64 po, .slice A n cap, .int .i64 tk, .string tn, .int .i64 rf, .int .i64 up] 26))) := Lib.hid (b1 w _)
  have HZ0 : Hid (w.heap.size < (w.alloc (.cells #[.int .i64 17, .string tx, .int .i64 nu, .int .i64 po, .slice A n cap, .int .i64 tk, .string tn, .int .i64 rf, .int .i64 up] 26)).heap.size) := Lib.hid (by simp)
  clear hn
  go_enter Tryz.func69, Tryz.ntmps69
  go_wp2
  go_ret
  exact ⟨ret_bool HX.out.symm, HB0.out⟩
theorem stq_21 (nu po tk rf up : Int) (tn : ByteArray) (tx : ByteArray) (k : Fo) : stOk nmv ⟨21, tx, nu, po, tk, tn, rf, up⟩ k = ((tx.data.toList == []) && true && one1 (exOk nmv) k) := by
  rw [stq nmv (l := [isE]) rfl rfl rfl rfl, fitv_one]; rfl
set_option maxRecDepth 100000 in
set_option maxHeartbeats 4000000 in
theorem is_21py (nu po tk rf up : Int) (tn : ByteArray)  (A : Option Addr) (cap : Nat) (k : Fo) (w : World)  (hl : k.len = 1) (hk : Kids (Lt w.heap.size) w A k) (hE : ∀ h0 k0, k = .cons h0 k0 .nil → ∀ A0 c0, Kids (Lt w.heap.size) w A0 k0 → At 67 w (nv h0 A0 k0.len c0) (exOk nmv h0 k0)) : CB' 69 w (.agg #[.int .i64 21, .string ⟨#[]⟩, .int .i64 nu, .int .i64 po, .slice A k.len cap, .int .i64 tk, .string tn, .int .i64 rf, .int .i64 up]) (stOk nmv ⟨21, ⟨#[]⟩, nu, po, tk, tn, rf, up⟩ k) := by
  obtain ⟨h0, k0, rfl⟩ := is1 hl
  obtain ⟨g, o, A0, c0, rfl, ⟨d0, d1, d2, d3, d4, d5, d6, d7, d8⟩, hk0, hg⟩ := kidv1 hk
  have HC := Lib.hid (hE h0 k0 rfl A0 c0 hk0)
  have HX := Lib.hid (stq_21 nu po tk rf up tn (⟨#[]⟩) (.cons h0 k0 .nil))
  obtain ⟨v, hv⟩ : ∃ v, exOk nmv h0 k0 = v := ⟨_, rfl⟩
  rw [show one1 (exOk nmv) (.cons h0 k0 .nil) = v from hv, show ((⟨#[]⟩ : ByteArray).data.toList == []) = true from rfl, Bool.true_and, Bool.true_and] at HX
  rw [hv] at HC
  have hl1 : (Fo.cons h0 k0 .nil).len = 1 := rfl
  obtain ⟨n0, hn0⟩ : ∃ n, k0.len = n := ⟨_, rfl⟩
  rw [hn0] at HC d4
  rw [hl1]
  have hgn : ¬ g = w.heap.size := by omega
  have hg1 : g < w.heap.size + 1 := by omega
  have HB0 : Hid (Below w.heap.size w (w.alloc (.cells #[.int .i64 21, .string ⟨#[]⟩, .int .i64 nu, .int .i64 po, .slice (some ⟨g, o, none⟩) 1 cap, .int .i64 tk, .string tn, .int .i64 rf, .int .i64 up] 26))) := Lib.hid (b1 w _)
  have HZ0 : Hid (w.heap.size < (w.alloc (.cells #[.int .i64 21, .string ⟨#[]⟩, .int .i64 nu, .int .i64 po, .slice (some ⟨g, o, none⟩) 1 cap, .int .i64 tk, .string tn, .int .i64 rf, .int .i64 up] 26)).heap.size) := Lib.hid (by simp)
  clear hv hn0 hl1 hk hk0 hE hl
  go_enter Tryz.func69, Tryz.ntmps69
  go_wp2_with fail
  refine (HC.out _ HB0.out).mono ?_
  rintro e V1 ⟨rfl, hb⟩
  have HB1 := Lib.hid (HB0.out.trans (hb.mono HB0.out.size))
  obtain ⟨hc1, hf1⟩ := bcell hb
  have hz1 : w.heap.size < V1.heap.size := by have := hb.size; have := HZ0.out; omega
  have HZ1 := Lib.hid hz1
  clear hb
  go_wp2
  go_ret
  exact ⟨ret_bool HX.out.symm, HB1.out⟩
set_option maxRecDepth 100000 in
set_option maxHeartbeats 4000000 in
theorem is_21pl (nu po tk rf up : Int) (tn : ByteArray)  (A : Option Addr) (cap : Nat) (k : Fo) (w : World)  (hl : ¬ k.len = 1) : CB' 69 w (.agg #[.int .i64 21, .string ⟨#[]⟩, .int .i64 nu, .int .i64 po, .slice A k.len cap, .int .i64 tk, .string tn, .int .i64 rf, .int .i64 up]) (stOk nmv ⟨21, ⟨#[]⟩, nu, po, tk, tn, rf, up⟩ k) := by
  have HX : Hid (stOk nmv ⟨21, ⟨#[]⟩, nu, po, tk, tn, rf, up⟩ k = false) := Lib.hid (by rw [stq_21, one1_len hl, Bool.and_false])
  obtain ⟨n, hn⟩ : ∃ n, k.len = n := ⟨_, rfl⟩
  rw [hn] at hl
  have hne : ((n : Int) == 1) = false := by rw [ieq1]; simpa using hl
  rw [show CB' 69 w (.agg #[.int .i64 21, .string ⟨#[]⟩, .int .i64 nu, .int .i64 po, .slice A k.len cap, .int .i64 tk, .string tn, .int .i64 rf, .int .i64 up]) (stOk nmv ⟨21, ⟨#[]⟩, nu, po, tk, tn, rf, up⟩ k) = CB' 69 w (.agg #[.int .i64 21, .string ⟨#[]⟩, .int .i64 nu, .int .i64 po, .slice A n cap, .int .i64 tk, .string tn, .int .i64 rf, .int .i64 up]) (stOk nmv ⟨21, ⟨#[]⟩, nu, po, tk, tn, rf, up⟩ k) by rw [hn]]
  have HB0 : Hid (Below w.heap.size w (w.alloc (.cells #[.int .i64 21, .string ⟨#[]⟩, .int .i64 nu, .int .i64 po, .slice A n cap, .int .i64 tk, .string tn, .int .i64 rf, .int .i64 up] 26))) := Lib.hid (b1 w _)
  have HZ0 : Hid (w.heap.size < (w.alloc (.cells #[.int .i64 21, .string ⟨#[]⟩, .int .i64 nu, .int .i64 po, .slice A n cap, .int .i64 tk, .string tn, .int .i64 rf, .int .i64 up] 26)).heap.size) := Lib.hid (by simp)
  clear hl hn
  go_enter Tryz.func69, Tryz.ntmps69
  go_wp2
  go_ret
  exact ⟨ret_bool HX.out.symm, HB0.out⟩
set_option maxRecDepth 100000 in
set_option maxHeartbeats 4000000 in
theorem is_21qf (nu po tk rf up : Int) (tn : ByteArray) (tx : ByteArray) (A : Option Addr) (cap : Nat) (k : Fo) (w : World) (HT : Hid ((tx.data.toList == []) = false)) (t1 : (tx.toList == []) = false) (t2 : tx.toList.isEmpty = false) : CB' 69 w (.agg #[.int .i64 21, .string tx, .int .i64 nu, .int .i64 po, .slice A k.len cap, .int .i64 tk, .string tn, .int .i64 rf, .int .i64 up]) (stOk nmv ⟨21, tx, nu, po, tk, tn, rf, up⟩ k) := by
  have HX : Hid (stOk nmv ⟨21, tx, nu, po, tk, tn, rf, up⟩ k = false) := Lib.hid (by rw [stq_21, HT.out, Bool.false_and, Bool.false_and])
  obtain ⟨n, hn⟩ : ∃ n, k.len = n := ⟨_, rfl⟩
  rw [hn]
  have HB0 : Hid (Below w.heap.size w (w.alloc (.cells #[.int .i64 21, .string tx, .int .i64 nu, .int .i64 po, .slice A n cap, .int .i64 tk, .string tn, .int .i64 rf, .int .i64 up] 26))) := Lib.hid (b1 w _)
  have HZ0 : Hid (w.heap.size < (w.alloc (.cells #[.int .i64 21, .string tx, .int .i64 nu, .int .i64 po, .slice A n cap, .int .i64 tk, .string tn, .int .i64 rf, .int .i64 up] 26)).heap.size) := Lib.hid (by simp)
  clear hn
  go_enter Tryz.func69, Tryz.ntmps69
  go_wp2
  go_ret
  exact ⟨ret_bool HX.out.symm, HB0.out⟩
theorem stq_11 (nu po tk rf up : Int) (tn : ByteArray) (tx : ByteArray) (k : Fo) : stOk nmv ⟨11, tx, nu, po, tk, tn, rf, up⟩ k = (nmv tx && true && one1 (exOk nmv) k) := by
  rw [stq nmv (l := [isE]) rfl rfl rfl rfl, fitv_one]; rfl
set_option maxRecDepth 100000 in
set_option maxHeartbeats 4000000 in
theorem is_11ny (nu po tk rf up : Int) (tn : ByteArray) (tx : ByteArray) (A : Option Addr) (cap : Nat) (k : Fo) (w : World) (HT : Hid (nmv tx = true)) (HN : Hid (∀ W, Calls Tryz.prog 45 #[.string tx] W fun e w' => e = .returned (.bool true) ∧ W = w')) (hl : k.len = 1) (hk : Kids (Lt w.heap.size) w A k) (hE : ∀ h0 k0, k = .cons h0 k0 .nil → ∀ A0 c0, Kids (Lt w.heap.size) w A0 k0 → At 67 w (nv h0 A0 k0.len c0) (exOk nmv h0 k0)) : CB' 69 w (.agg #[.int .i64 11, .string tx, .int .i64 nu, .int .i64 po, .slice A k.len cap, .int .i64 tk, .string tn, .int .i64 rf, .int .i64 up]) (stOk nmv ⟨11, tx, nu, po, tk, tn, rf, up⟩ k) := by
  obtain ⟨h0, k0, rfl⟩ := is1 hl
  obtain ⟨g, o, A0, c0, rfl, ⟨d0, d1, d2, d3, d4, d5, d6, d7, d8⟩, hk0, hg⟩ := kidv1 hk
  have HC := Lib.hid (hE h0 k0 rfl A0 c0 hk0)
  have HX := Lib.hid (stq_11 nu po tk rf up tn (tx) (.cons h0 k0 .nil))
  obtain ⟨v, hv⟩ : ∃ v, exOk nmv h0 k0 = v := ⟨_, rfl⟩
  rw [show one1 (exOk nmv) (.cons h0 k0 .nil) = v from hv, HT.out, Bool.true_and, Bool.true_and] at HX
  rw [hv] at HC
  have hl1 : (Fo.cons h0 k0 .nil).len = 1 := rfl
  obtain ⟨n0, hn0⟩ : ∃ n, k0.len = n := ⟨_, rfl⟩
  rw [hn0] at HC d4
  rw [hl1]
  have hgn : ¬ g = w.heap.size := by omega
  have hg1 : g < w.heap.size + 1 := by omega
  have HB0 : Hid (Below w.heap.size w (w.alloc (.cells #[.int .i64 11, .string tx, .int .i64 nu, .int .i64 po, .slice (some ⟨g, o, none⟩) 1 cap, .int .i64 tk, .string tn, .int .i64 rf, .int .i64 up] 26))) := Lib.hid (b1 w _)
  have HZ0 : Hid (w.heap.size < (w.alloc (.cells #[.int .i64 11, .string tx, .int .i64 nu, .int .i64 po, .slice (some ⟨g, o, none⟩) 1 cap, .int .i64 tk, .string tn, .int .i64 rf, .int .i64 up] 26)).heap.size) := Lib.hid (by simp)
  clear hv hn0 hl1 hk hk0 hE hl
  go_enter Tryz.func69, Tryz.ntmps69
  go_wp2_with fail
  refine (HN.out _).mono ?_
  rintro e W ⟨rfl, rfl⟩
  go_wp2_with fail
  refine (HC.out _ HB0.out).mono ?_
  rintro e V1 ⟨rfl, hb⟩
  have HB1 := Lib.hid (HB0.out.trans (hb.mono HB0.out.size))
  obtain ⟨hc1, hf1⟩ := bcell hb
  have hz1 : w.heap.size < V1.heap.size := by have := hb.size; have := HZ0.out; omega
  have HZ1 := Lib.hid hz1
  clear hb
  go_wp2
  go_ret
  exact ⟨ret_bool HX.out.symm, HB1.out⟩
set_option maxRecDepth 100000 in
set_option maxHeartbeats 4000000 in
theorem is_11nl (nu po tk rf up : Int) (tn : ByteArray) (tx : ByteArray) (A : Option Addr) (cap : Nat) (k : Fo) (w : World) (HT : Hid (nmv tx = true)) (HN : Hid (∀ W, Calls Tryz.prog 45 #[.string tx] W fun e w' => e = .returned (.bool true) ∧ W = w')) (hl : ¬ k.len = 1) : CB' 69 w (.agg #[.int .i64 11, .string tx, .int .i64 nu, .int .i64 po, .slice A k.len cap, .int .i64 tk, .string tn, .int .i64 rf, .int .i64 up]) (stOk nmv ⟨11, tx, nu, po, tk, tn, rf, up⟩ k) := by
  have HX : Hid (stOk nmv ⟨11, tx, nu, po, tk, tn, rf, up⟩ k = false) := Lib.hid (by rw [stq_11, one1_len hl, Bool.and_false])
  obtain ⟨n, hn⟩ : ∃ n, k.len = n := ⟨_, rfl⟩
  rw [hn] at hl
  have hne : ((n : Int) == 1) = false := by rw [ieq1]; simpa using hl
  rw [show CB' 69 w (.agg #[.int .i64 11, .string tx, .int .i64 nu, .int .i64 po, .slice A k.len cap, .int .i64 tk, .string tn, .int .i64 rf, .int .i64 up]) (stOk nmv ⟨11, tx, nu, po, tk, tn, rf, up⟩ k) = CB' 69 w (.agg #[.int .i64 11, .string tx, .int .i64 nu, .int .i64 po, .slice A n cap, .int .i64 tk, .string tn, .int .i64 rf, .int .i64 up]) (stOk nmv ⟨11, tx, nu, po, tk, tn, rf, up⟩ k) by rw [hn]]
  have HB0 : Hid (Below w.heap.size w (w.alloc (.cells #[.int .i64 11, .string tx, .int .i64 nu, .int .i64 po, .slice A n cap, .int .i64 tk, .string tn, .int .i64 rf, .int .i64 up] 26))) := Lib.hid (b1 w _)
  have HZ0 : Hid (w.heap.size < (w.alloc (.cells #[.int .i64 11, .string tx, .int .i64 nu, .int .i64 po, .slice A n cap, .int .i64 tk, .string tn, .int .i64 rf, .int .i64 up] 26)).heap.size) := Lib.hid (by simp)
  clear hl hn
  go_enter Tryz.func69, Tryz.ntmps69
  go_wp2_with fail
  refine (HN.out _).mono ?_
  rintro e W ⟨rfl, rfl⟩
  go_wp2
  go_ret
  exact ⟨ret_bool HX.out.symm, HB0.out⟩
set_option maxRecDepth 100000 in
set_option maxHeartbeats 4000000 in
theorem is_11nnf (nu po tk rf up : Int) (tn : ByteArray) (tx : ByteArray) (A : Option Addr) (cap : Nat) (k : Fo) (w : World) (HT : Hid (nmv tx = false)) (HN : Hid (∀ W, Calls Tryz.prog 45 #[.string tx] W fun e w' => e = .returned (.bool false) ∧ W = w')) : CB' 69 w (.agg #[.int .i64 11, .string tx, .int .i64 nu, .int .i64 po, .slice A k.len cap, .int .i64 tk, .string tn, .int .i64 rf, .int .i64 up]) (stOk nmv ⟨11, tx, nu, po, tk, tn, rf, up⟩ k) := by
  have HX : Hid (stOk nmv ⟨11, tx, nu, po, tk, tn, rf, up⟩ k = false) := Lib.hid (by rw [stq_11, HT.out, Bool.false_and, Bool.false_and])
  obtain ⟨n, hn⟩ : ∃ n, k.len = n := ⟨_, rfl⟩
  rw [hn]
  have HB0 : Hid (Below w.heap.size w (w.alloc (.cells #[.int .i64 11, .string tx, .int .i64 nu, .int .i64 po, .slice A n cap, .int .i64 tk, .string tn, .int .i64 rf, .int .i64 up] 26))) := Lib.hid (b1 w _)
  have HZ0 : Hid (w.heap.size < (w.alloc (.cells #[.int .i64 11, .string tx, .int .i64 nu, .int .i64 po, .slice A n cap, .int .i64 tk, .string tn, .int .i64 rf, .int .i64 up] 26)).heap.size) := Lib.hid (by simp)
  clear hn
  go_enter Tryz.func69, Tryz.ntmps69
  go_wp2_with fail
  refine (HN.out _).mono ?_
  rintro e W ⟨rfl, rfl⟩
  go_wp2
  go_ret
  exact ⟨ret_bool HX.out.symm, HB0.out⟩
theorem stq_14 (nu po tk rf up : Int) (tn : ByteArray) (tx : ByteArray) (k : Fo) : stOk nmv ⟨14, tx, nu, po, tk, tn, rf, up⟩ k = ((tx.data.toList == []) && true && one1 (kdOk nmv 30) k) := by
  rw [stq nmv (l := [T.one [30]]) rfl rfl rfl rfl, fitv_one, one_kd]; rfl
set_option maxRecDepth 100000 in
set_option maxHeartbeats 4000000 in
theorem is_14py (nu po tk rf up : Int) (tn : ByteArray)  (A : Option Addr) (cap : Nat) (k : Fo) (w : World)  (hl : k.len = 1) (hk : Kids (Lt w.heap.size) w A k) (hE : ∀ h0 k0, k = .cons h0 k0 .nil → ∀ A0 c0, Kids (Lt w.heap.size) w A0 k0 → AtK 30 w (nv h0 A0 k0.len c0) (kdOk nmv 30 h0 k0)) : CB' 69 w (.agg #[.int .i64 14, .string ⟨#[]⟩, .int .i64 nu, .int .i64 po, .slice A k.len cap, .int .i64 tk, .string tn, .int .i64 rf, .int .i64 up]) (stOk nmv ⟨14, ⟨#[]⟩, nu, po, tk, tn, rf, up⟩ k) := by
  obtain ⟨h0, k0, rfl⟩ := is1 hl
  obtain ⟨g, o, A0, c0, rfl, ⟨d0, d1, d2, d3, d4, d5, d6, d7, d8⟩, hk0, hg⟩ := kidv1 hk
  have HC := Lib.hid (hE h0 k0 rfl A0 c0 hk0)
  have HX := Lib.hid (stq_14 nu po tk rf up tn (⟨#[]⟩) (.cons h0 k0 .nil))
  obtain ⟨v, hv⟩ : ∃ v, kdOk nmv 30 h0 k0 = v := ⟨_, rfl⟩
  rw [show one1 (kdOk nmv 30) (.cons h0 k0 .nil) = v from hv, show ((⟨#[]⟩ : ByteArray).data.toList == []) = true from rfl, Bool.true_and, Bool.true_and] at HX
  rw [hv] at HC
  have hl1 : (Fo.cons h0 k0 .nil).len = 1 := rfl
  obtain ⟨n0, hn0⟩ : ∃ n, k0.len = n := ⟨_, rfl⟩
  rw [hn0] at HC d4
  rw [hl1]
  have hgn : ¬ g = w.heap.size := by omega
  have hg1 : g < w.heap.size + 1 := by omega
  have HB0 : Hid (Below w.heap.size w (w.alloc (.cells #[.int .i64 14, .string ⟨#[]⟩, .int .i64 nu, .int .i64 po, .slice (some ⟨g, o, none⟩) 1 cap, .int .i64 tk, .string tn, .int .i64 rf, .int .i64 up] 26))) := Lib.hid (b1 w _)
  have HZ0 : Hid (w.heap.size < (w.alloc (.cells #[.int .i64 14, .string ⟨#[]⟩, .int .i64 nu, .int .i64 po, .slice (some ⟨g, o, none⟩) 1 cap, .int .i64 tk, .string tn, .int .i64 rf, .int .i64 up] 26)).heap.size) := Lib.hid (by simp)
  clear hv hn0 hl1 hk hk0 hE hl
  go_enter Tryz.func69, Tryz.ntmps69
  go_wp2_with fail
  refine (HC.out _ HB0.out).mono ?_
  rintro e V1 ⟨rfl, hb⟩
  have HB1 := Lib.hid (HB0.out.trans (hb.mono HB0.out.size))
  obtain ⟨hc1, hf1⟩ := bcell hb
  have hz1 : w.heap.size < V1.heap.size := by have := hb.size; have := HZ0.out; omega
  have HZ1 := Lib.hid hz1
  clear hb
  go_wp2
  go_ret
  exact ⟨ret_bool HX.out.symm, HB1.out⟩
set_option maxRecDepth 100000 in
set_option maxHeartbeats 4000000 in
theorem is_14pl (nu po tk rf up : Int) (tn : ByteArray)  (A : Option Addr) (cap : Nat) (k : Fo) (w : World)  (hl : ¬ k.len = 1) : CB' 69 w (.agg #[.int .i64 14, .string ⟨#[]⟩, .int .i64 nu, .int .i64 po, .slice A k.len cap, .int .i64 tk, .string tn, .int .i64 rf, .int .i64 up]) (stOk nmv ⟨14, ⟨#[]⟩, nu, po, tk, tn, rf, up⟩ k) := by
  have HX : Hid (stOk nmv ⟨14, ⟨#[]⟩, nu, po, tk, tn, rf, up⟩ k = false) := Lib.hid (by rw [stq_14, one1_len hl, Bool.and_false])
  obtain ⟨n, hn⟩ : ∃ n, k.len = n := ⟨_, rfl⟩
  rw [hn] at hl
  have hne : ((n : Int) == 1) = false := by rw [ieq1]; simpa using hl
  rw [show CB' 69 w (.agg #[.int .i64 14, .string ⟨#[]⟩, .int .i64 nu, .int .i64 po, .slice A k.len cap, .int .i64 tk, .string tn, .int .i64 rf, .int .i64 up]) (stOk nmv ⟨14, ⟨#[]⟩, nu, po, tk, tn, rf, up⟩ k) = CB' 69 w (.agg #[.int .i64 14, .string ⟨#[]⟩, .int .i64 nu, .int .i64 po, .slice A n cap, .int .i64 tk, .string tn, .int .i64 rf, .int .i64 up]) (stOk nmv ⟨14, ⟨#[]⟩, nu, po, tk, tn, rf, up⟩ k) by rw [hn]]
  have HB0 : Hid (Below w.heap.size w (w.alloc (.cells #[.int .i64 14, .string ⟨#[]⟩, .int .i64 nu, .int .i64 po, .slice A n cap, .int .i64 tk, .string tn, .int .i64 rf, .int .i64 up] 26))) := Lib.hid (b1 w _)
  have HZ0 : Hid (w.heap.size < (w.alloc (.cells #[.int .i64 14, .string ⟨#[]⟩, .int .i64 nu, .int .i64 po, .slice A n cap, .int .i64 tk, .string tn, .int .i64 rf, .int .i64 up] 26)).heap.size) := Lib.hid (by simp)
  clear hl hn
  go_enter Tryz.func69, Tryz.ntmps69
  go_wp2
  go_ret
  exact ⟨ret_bool HX.out.symm, HB0.out⟩
set_option maxRecDepth 100000 in
set_option maxHeartbeats 4000000 in
theorem is_14qf (nu po tk rf up : Int) (tn : ByteArray) (tx : ByteArray) (A : Option Addr) (cap : Nat) (k : Fo) (w : World) (HT : Hid ((tx.data.toList == []) = false)) (t1 : (tx.toList == []) = false) (t2 : tx.toList.isEmpty = false) : CB' 69 w (.agg #[.int .i64 14, .string tx, .int .i64 nu, .int .i64 po, .slice A k.len cap, .int .i64 tk, .string tn, .int .i64 rf, .int .i64 up]) (stOk nmv ⟨14, tx, nu, po, tk, tn, rf, up⟩ k) := by
  have HX : Hid (stOk nmv ⟨14, tx, nu, po, tk, tn, rf, up⟩ k = false) := Lib.hid (by rw [stq_14, HT.out, Bool.false_and, Bool.false_and])
  obtain ⟨n, hn⟩ : ∃ n, k.len = n := ⟨_, rfl⟩
  rw [hn]
  have HB0 : Hid (Below w.heap.size w (w.alloc (.cells #[.int .i64 14, .string tx, .int .i64 nu, .int .i64 po, .slice A n cap, .int .i64 tk, .string tn, .int .i64 rf, .int .i64 up] 26))) := Lib.hid (b1 w _)
  have HZ0 : Hid (w.heap.size < (w.alloc (.cells #[.int .i64 14, .string tx, .int .i64 nu, .int .i64 po, .slice A n cap, .int .i64 tk, .string tn, .int .i64 rf, .int .i64 up] 26)).heap.size) := Lib.hid (by simp)
  clear hn
  go_enter Tryz.func69, Tryz.ntmps69
  go_wp2
  go_ret
  exact ⟨ret_bool HX.out.symm, HB0.out⟩
theorem stq_15 (nu po tk rf up : Int) (tn : ByteArray) (tx : ByteArray) (k : Fo) : stOk nmv ⟨15, tx, nu, po, tk, tn, rf, up⟩ k = ((tx.data.toList == []) && true && one1 (kdOk nmv 30) k) := by
  rw [stq nmv (l := [T.one [30]]) rfl rfl rfl rfl, fitv_one, one_kd]; rfl
set_option maxRecDepth 100000 in
set_option maxHeartbeats 4000000 in
theorem is_15py (nu po tk rf up : Int) (tn : ByteArray)  (A : Option Addr) (cap : Nat) (k : Fo) (w : World)  (hl : k.len = 1) (hk : Kids (Lt w.heap.size) w A k) (hE : ∀ h0 k0, k = .cons h0 k0 .nil → ∀ A0 c0, Kids (Lt w.heap.size) w A0 k0 → AtK 30 w (nv h0 A0 k0.len c0) (kdOk nmv 30 h0 k0)) : CB' 69 w (.agg #[.int .i64 15, .string ⟨#[]⟩, .int .i64 nu, .int .i64 po, .slice A k.len cap, .int .i64 tk, .string tn, .int .i64 rf, .int .i64 up]) (stOk nmv ⟨15, ⟨#[]⟩, nu, po, tk, tn, rf, up⟩ k) := by
  obtain ⟨h0, k0, rfl⟩ := is1 hl
  obtain ⟨g, o, A0, c0, rfl, ⟨d0, d1, d2, d3, d4, d5, d6, d7, d8⟩, hk0, hg⟩ := kidv1 hk
  have HC := Lib.hid (hE h0 k0 rfl A0 c0 hk0)
  have HX := Lib.hid (stq_15 nu po tk rf up tn (⟨#[]⟩) (.cons h0 k0 .nil))
  obtain ⟨v, hv⟩ : ∃ v, kdOk nmv 30 h0 k0 = v := ⟨_, rfl⟩
  rw [show one1 (kdOk nmv 30) (.cons h0 k0 .nil) = v from hv, show ((⟨#[]⟩ : ByteArray).data.toList == []) = true from rfl, Bool.true_and, Bool.true_and] at HX
  rw [hv] at HC
  have hl1 : (Fo.cons h0 k0 .nil).len = 1 := rfl
  obtain ⟨n0, hn0⟩ : ∃ n, k0.len = n := ⟨_, rfl⟩
  rw [hn0] at HC d4
  rw [hl1]
  have hgn : ¬ g = w.heap.size := by omega
  have hg1 : g < w.heap.size + 1 := by omega
  have HB0 : Hid (Below w.heap.size w (w.alloc (.cells #[.int .i64 15, .string ⟨#[]⟩, .int .i64 nu, .int .i64 po, .slice (some ⟨g, o, none⟩) 1 cap, .int .i64 tk, .string tn, .int .i64 rf, .int .i64 up] 26))) := Lib.hid (b1 w _)
  have HZ0 : Hid (w.heap.size < (w.alloc (.cells #[.int .i64 15, .string ⟨#[]⟩, .int .i64 nu, .int .i64 po, .slice (some ⟨g, o, none⟩) 1 cap, .int .i64 tk, .string tn, .int .i64 rf, .int .i64 up] 26)).heap.size) := Lib.hid (by simp)
  clear hv hn0 hl1 hk hk0 hE hl
  go_enter Tryz.func69, Tryz.ntmps69
  go_wp2_with fail
  refine (HC.out _ HB0.out).mono ?_
  rintro e V1 ⟨rfl, hb⟩
  have HB1 := Lib.hid (HB0.out.trans (hb.mono HB0.out.size))
  obtain ⟨hc1, hf1⟩ := bcell hb
  have hz1 : w.heap.size < V1.heap.size := by have := hb.size; have := HZ0.out; omega
  have HZ1 := Lib.hid hz1
  clear hb
  go_wp2
  go_ret
  exact ⟨ret_bool HX.out.symm, HB1.out⟩
set_option maxRecDepth 100000 in
set_option maxHeartbeats 4000000 in
theorem is_15pl (nu po tk rf up : Int) (tn : ByteArray)  (A : Option Addr) (cap : Nat) (k : Fo) (w : World)  (hl : ¬ k.len = 1) : CB' 69 w (.agg #[.int .i64 15, .string ⟨#[]⟩, .int .i64 nu, .int .i64 po, .slice A k.len cap, .int .i64 tk, .string tn, .int .i64 rf, .int .i64 up]) (stOk nmv ⟨15, ⟨#[]⟩, nu, po, tk, tn, rf, up⟩ k) := by
  have HX : Hid (stOk nmv ⟨15, ⟨#[]⟩, nu, po, tk, tn, rf, up⟩ k = false) := Lib.hid (by rw [stq_15, one1_len hl, Bool.and_false])
  obtain ⟨n, hn⟩ : ∃ n, k.len = n := ⟨_, rfl⟩
  rw [hn] at hl
  have hne : ((n : Int) == 1) = false := by rw [ieq1]; simpa using hl
  rw [show CB' 69 w (.agg #[.int .i64 15, .string ⟨#[]⟩, .int .i64 nu, .int .i64 po, .slice A k.len cap, .int .i64 tk, .string tn, .int .i64 rf, .int .i64 up]) (stOk nmv ⟨15, ⟨#[]⟩, nu, po, tk, tn, rf, up⟩ k) = CB' 69 w (.agg #[.int .i64 15, .string ⟨#[]⟩, .int .i64 nu, .int .i64 po, .slice A n cap, .int .i64 tk, .string tn, .int .i64 rf, .int .i64 up]) (stOk nmv ⟨15, ⟨#[]⟩, nu, po, tk, tn, rf, up⟩ k) by rw [hn]]
  have HB0 : Hid (Below w.heap.size w (w.alloc (.cells #[.int .i64 15, .string ⟨#[]⟩, .int .i64 nu, .int .i64 po, .slice A n cap, .int .i64 tk, .string tn, .int .i64 rf, .int .i64 up] 26))) := Lib.hid (b1 w _)
  have HZ0 : Hid (w.heap.size < (w.alloc (.cells #[.int .i64 15, .string ⟨#[]⟩, .int .i64 nu, .int .i64 po, .slice A n cap, .int .i64 tk, .string tn, .int .i64 rf, .int .i64 up] 26)).heap.size) := Lib.hid (by simp)
  clear hl hn
  go_enter Tryz.func69, Tryz.ntmps69
  go_wp2
  go_ret
  exact ⟨ret_bool HX.out.symm, HB0.out⟩
set_option maxRecDepth 100000 in
set_option maxHeartbeats 4000000 in
theorem is_15qf (nu po tk rf up : Int) (tn : ByteArray) (tx : ByteArray) (A : Option Addr) (cap : Nat) (k : Fo) (w : World) (HT : Hid ((tx.data.toList == []) = false)) (t1 : (tx.toList == []) = false) (t2 : tx.toList.isEmpty = false) : CB' 69 w (.agg #[.int .i64 15, .string tx, .int .i64 nu, .int .i64 po, .slice A k.len cap, .int .i64 tk, .string tn, .int .i64 rf, .int .i64 up]) (stOk nmv ⟨15, tx, nu, po, tk, tn, rf, up⟩ k) := by
  have HX : Hid (stOk nmv ⟨15, tx, nu, po, tk, tn, rf, up⟩ k = false) := Lib.hid (by rw [stq_15, HT.out, Bool.false_and, Bool.false_and])
  obtain ⟨n, hn⟩ : ∃ n, k.len = n := ⟨_, rfl⟩
  rw [hn]
  have HB0 : Hid (Below w.heap.size w (w.alloc (.cells #[.int .i64 15, .string tx, .int .i64 nu, .int .i64 po, .slice A n cap, .int .i64 tk, .string tn, .int .i64 rf, .int .i64 up] 26))) := Lib.hid (b1 w _)
  have HZ0 : Hid (w.heap.size < (w.alloc (.cells #[.int .i64 15, .string tx, .int .i64 nu, .int .i64 po, .slice A n cap, .int .i64 tk, .string tn, .int .i64 rf, .int .i64 up] 26)).heap.size) := Lib.hid (by simp)
  clear hn
  go_enter Tryz.func69, Tryz.ntmps69
  go_wp2
  go_ret
  exact ⟨ret_bool HX.out.symm, HB0.out⟩
theorem stq_12 (nu po tk rf up : Int) (tn : ByteArray) (tx : ByteArray) (k : Fo) : stOk nmv ⟨12, tx, nu, po, tk, tn, rf, up⟩ k = ((tx.data.toList == []) && true && two2 (exOk nmv) (exOk nmv) k) := by
  rw [stq nmv (l := [isE, isE]) rfl rfl rfl rfl, fitv_two]; rfl
set_option maxRecDepth 100000 in
set_option maxHeartbeats 4000000 in
theorem is_12py (nu po tk rf up : Int) (tn : ByteArray)  (A : Option Addr) (cap : Nat) (k : Fo) (w : World)  (hl : k.len = 2) (hL : At 89 w (.slice A k.len cap) (allB (exOk nmv) k)) : CB' 69 w (.agg #[.int .i64 12, .string ⟨#[]⟩, .int .i64 nu, .int .i64 po, .slice A k.len cap, .int .i64 tk, .string tn, .int .i64 rf, .int .i64 up]) (stOk nmv ⟨12, ⟨#[]⟩, nu, po, tk, tn, rf, up⟩ k) := by
  have HX := Lib.hid (stq_12 nu po tk rf up tn (⟨#[]⟩) k)
  rw [two2_all hl, show ((⟨#[]⟩ : ByteArray).data.toList == []) = true from rfl, Bool.true_and, Bool.true_and] at HX
  obtain ⟨v, hv⟩ : ∃ v, allB (exOk nmv) k = v := ⟨_, rfl⟩
  rw [hv] at HX hL
  rw [hl] at hL ⊢
  have HC := Lib.hid hL
  have HB0 : Hid (Below w.heap.size w (w.alloc (.cells #[.int .i64 12, .string ⟨#[]⟩, .int .i64 nu, .int .i64 po, .slice A 2 cap, .int .i64 tk, .string tn, .int .i64 rf, .int .i64 up] 26))) := Lib.hid (b1 w _)
  have HZ0 : Hid (w.heap.size < (w.alloc (.cells #[.int .i64 12, .string ⟨#[]⟩, .int .i64 nu, .int .i64 po, .slice A 2 cap, .int .i64 tk, .string tn, .int .i64 rf, .int .i64 up] 26)).heap.size) := Lib.hid (by simp)
  clear hv hl hL
  go_enter Tryz.func69, Tryz.ntmps69
  go_wp2_with fail
  refine (HC.out _ HB0.out).mono ?_
  rintro e V1 ⟨rfl, hb⟩
  have HB1 := Lib.hid (HB0.out.trans (hb.mono HB0.out.size))
  obtain ⟨hc1, hf1⟩ := bcell hb
  have hz1 : w.heap.size < V1.heap.size := by have := hb.size; have := HZ0.out; omega
  have HZ1 := Lib.hid hz1
  clear hb
  go_wp2
  go_ret
  exact ⟨ret_bool HX.out.symm, HB1.out⟩
set_option maxRecDepth 100000 in
set_option maxHeartbeats 4000000 in
theorem is_12pl (nu po tk rf up : Int) (tn : ByteArray)  (A : Option Addr) (cap : Nat) (k : Fo) (w : World)  (hl : ¬ k.len = 2) : CB' 69 w (.agg #[.int .i64 12, .string ⟨#[]⟩, .int .i64 nu, .int .i64 po, .slice A k.len cap, .int .i64 tk, .string tn, .int .i64 rf, .int .i64 up]) (stOk nmv ⟨12, ⟨#[]⟩, nu, po, tk, tn, rf, up⟩ k) := by
  have HX : Hid (stOk nmv ⟨12, ⟨#[]⟩, nu, po, tk, tn, rf, up⟩ k = false) := Lib.hid (by rw [stq_12, two2_len hl, Bool.and_false])
  obtain ⟨n, hn⟩ : ∃ n, k.len = n := ⟨_, rfl⟩
  rw [hn] at hl
  have hne : ((n : Int) == 2) = false := by rw [ieq2]; simpa using hl
  rw [show CB' 69 w (.agg #[.int .i64 12, .string ⟨#[]⟩, .int .i64 nu, .int .i64 po, .slice A k.len cap, .int .i64 tk, .string tn, .int .i64 rf, .int .i64 up]) (stOk nmv ⟨12, ⟨#[]⟩, nu, po, tk, tn, rf, up⟩ k) = CB' 69 w (.agg #[.int .i64 12, .string ⟨#[]⟩, .int .i64 nu, .int .i64 po, .slice A n cap, .int .i64 tk, .string tn, .int .i64 rf, .int .i64 up]) (stOk nmv ⟨12, ⟨#[]⟩, nu, po, tk, tn, rf, up⟩ k) by rw [hn]]
  have HB0 : Hid (Below w.heap.size w (w.alloc (.cells #[.int .i64 12, .string ⟨#[]⟩, .int .i64 nu, .int .i64 po, .slice A n cap, .int .i64 tk, .string tn, .int .i64 rf, .int .i64 up] 26))) := Lib.hid (b1 w _)
  have HZ0 : Hid (w.heap.size < (w.alloc (.cells #[.int .i64 12, .string ⟨#[]⟩, .int .i64 nu, .int .i64 po, .slice A n cap, .int .i64 tk, .string tn, .int .i64 rf, .int .i64 up] 26)).heap.size) := Lib.hid (by simp)
  clear hl hn
  go_enter Tryz.func69, Tryz.ntmps69
  go_wp2
  go_ret
  exact ⟨ret_bool HX.out.symm, HB0.out⟩
set_option maxRecDepth 100000 in
set_option maxHeartbeats 4000000 in
theorem is_12qf (nu po tk rf up : Int) (tn : ByteArray) (tx : ByteArray) (A : Option Addr) (cap : Nat) (k : Fo) (w : World) (HT : Hid ((tx.data.toList == []) = false)) (t1 : (tx.toList == []) = false) (t2 : tx.toList.isEmpty = false) : CB' 69 w (.agg #[.int .i64 12, .string tx, .int .i64 nu, .int .i64 po, .slice A k.len cap, .int .i64 tk, .string tn, .int .i64 rf, .int .i64 up]) (stOk nmv ⟨12, tx, nu, po, tk, tn, rf, up⟩ k) := by
  have HX : Hid (stOk nmv ⟨12, tx, nu, po, tk, tn, rf, up⟩ k = false) := Lib.hid (by rw [stq_12, HT.out, Bool.false_and, Bool.false_and])
  obtain ⟨n, hn⟩ : ∃ n, k.len = n := ⟨_, rfl⟩
  rw [hn]
  have HB0 : Hid (Below w.heap.size w (w.alloc (.cells #[.int .i64 12, .string tx, .int .i64 nu, .int .i64 po, .slice A n cap, .int .i64 tk, .string tn, .int .i64 rf, .int .i64 up] 26))) := Lib.hid (b1 w _)
  have HZ0 : Hid (w.heap.size < (w.alloc (.cells #[.int .i64 12, .string tx, .int .i64 nu, .int .i64 po, .slice A n cap, .int .i64 tk, .string tn, .int .i64 rf, .int .i64 up] 26)).heap.size) := Lib.hid (by simp)
  clear hn
  go_enter Tryz.func69, Tryz.ntmps69
  go_wp2
  go_ret
  exact ⟨ret_bool HX.out.symm, HB0.out⟩
theorem stq_16 (nu po tk rf up : Int) (tn : ByteArray) (tx : ByteArray) (k : Fo) : stOk nmv ⟨16, tx, nu, po, tk, tn, rf, up⟩ k = ((tx.data.toList == []) && true && two2 (exOk nmv) (exOk nmv) k) := by
  rw [stq nmv (l := [isE, isE]) rfl rfl rfl rfl, fitv_two]; rfl
set_option maxRecDepth 100000 in
set_option maxHeartbeats 4000000 in
theorem is_16py (nu po tk rf up : Int) (tn : ByteArray)  (A : Option Addr) (cap : Nat) (k : Fo) (w : World)  (hl : k.len = 2) (hL : At 89 w (.slice A k.len cap) (allB (exOk nmv) k)) : CB' 69 w (.agg #[.int .i64 16, .string ⟨#[]⟩, .int .i64 nu, .int .i64 po, .slice A k.len cap, .int .i64 tk, .string tn, .int .i64 rf, .int .i64 up]) (stOk nmv ⟨16, ⟨#[]⟩, nu, po, tk, tn, rf, up⟩ k) := by
  have HX := Lib.hid (stq_16 nu po tk rf up tn (⟨#[]⟩) k)
  rw [two2_all hl, show ((⟨#[]⟩ : ByteArray).data.toList == []) = true from rfl, Bool.true_and, Bool.true_and] at HX
  obtain ⟨v, hv⟩ : ∃ v, allB (exOk nmv) k = v := ⟨_, rfl⟩
  rw [hv] at HX hL
  rw [hl] at hL ⊢
  have HC := Lib.hid hL
  have HB0 : Hid (Below w.heap.size w (w.alloc (.cells #[.int .i64 16, .string ⟨#[]⟩, .int .i64 nu, .int .i64 po, .slice A 2 cap, .int .i64 tk, .string tn, .int .i64 rf, .int .i64 up] 26))) := Lib.hid (b1 w _)
  have HZ0 : Hid (w.heap.size < (w.alloc (.cells #[.int .i64 16, .string ⟨#[]⟩, .int .i64 nu, .int .i64 po, .slice A 2 cap, .int .i64 tk, .string tn, .int .i64 rf, .int .i64 up] 26)).heap.size) := Lib.hid (by simp)
  clear hv hl hL
  go_enter Tryz.func69, Tryz.ntmps69
  go_wp2_with fail
  refine (HC.out _ HB0.out).mono ?_
  rintro e V1 ⟨rfl, hb⟩
  have HB1 := Lib.hid (HB0.out.trans (hb.mono HB0.out.size))
  obtain ⟨hc1, hf1⟩ := bcell hb
  have hz1 : w.heap.size < V1.heap.size := by have := hb.size; have := HZ0.out; omega
  have HZ1 := Lib.hid hz1
  clear hb
  go_wp2
  go_ret
  exact ⟨ret_bool HX.out.symm, HB1.out⟩
set_option maxRecDepth 100000 in
set_option maxHeartbeats 4000000 in
theorem is_16pl (nu po tk rf up : Int) (tn : ByteArray)  (A : Option Addr) (cap : Nat) (k : Fo) (w : World)  (hl : ¬ k.len = 2) : CB' 69 w (.agg #[.int .i64 16, .string ⟨#[]⟩, .int .i64 nu, .int .i64 po, .slice A k.len cap, .int .i64 tk, .string tn, .int .i64 rf, .int .i64 up]) (stOk nmv ⟨16, ⟨#[]⟩, nu, po, tk, tn, rf, up⟩ k) := by
  have HX : Hid (stOk nmv ⟨16, ⟨#[]⟩, nu, po, tk, tn, rf, up⟩ k = false) := Lib.hid (by rw [stq_16, two2_len hl, Bool.and_false])
  obtain ⟨n, hn⟩ : ∃ n, k.len = n := ⟨_, rfl⟩
  rw [hn] at hl
  have hne : ((n : Int) == 2) = false := by rw [ieq2]; simpa using hl
  rw [show CB' 69 w (.agg #[.int .i64 16, .string ⟨#[]⟩, .int .i64 nu, .int .i64 po, .slice A k.len cap, .int .i64 tk, .string tn, .int .i64 rf, .int .i64 up]) (stOk nmv ⟨16, ⟨#[]⟩, nu, po, tk, tn, rf, up⟩ k) = CB' 69 w (.agg #[.int .i64 16, .string ⟨#[]⟩, .int .i64 nu, .int .i64 po, .slice A n cap, .int .i64 tk, .string tn, .int .i64 rf, .int .i64 up]) (stOk nmv ⟨16, ⟨#[]⟩, nu, po, tk, tn, rf, up⟩ k) by rw [hn]]
  have HB0 : Hid (Below w.heap.size w (w.alloc (.cells #[.int .i64 16, .string ⟨#[]⟩, .int .i64 nu, .int .i64 po, .slice A n cap, .int .i64 tk, .string tn, .int .i64 rf, .int .i64 up] 26))) := Lib.hid (b1 w _)
  have HZ0 : Hid (w.heap.size < (w.alloc (.cells #[.int .i64 16, .string ⟨#[]⟩, .int .i64 nu, .int .i64 po, .slice A n cap, .int .i64 tk, .string tn, .int .i64 rf, .int .i64 up] 26)).heap.size) := Lib.hid (by simp)
  clear hl hn
  go_enter Tryz.func69, Tryz.ntmps69
  go_wp2
  go_ret
  exact ⟨ret_bool HX.out.symm, HB0.out⟩
set_option maxRecDepth 100000 in
set_option maxHeartbeats 4000000 in
theorem is_16qf (nu po tk rf up : Int) (tn : ByteArray) (tx : ByteArray) (A : Option Addr) (cap : Nat) (k : Fo) (w : World) (HT : Hid ((tx.data.toList == []) = false)) (t1 : (tx.toList == []) = false) (t2 : tx.toList.isEmpty = false) : CB' 69 w (.agg #[.int .i64 16, .string tx, .int .i64 nu, .int .i64 po, .slice A k.len cap, .int .i64 tk, .string tn, .int .i64 rf, .int .i64 up]) (stOk nmv ⟨16, tx, nu, po, tk, tn, rf, up⟩ k) := by
  have HX : Hid (stOk nmv ⟨16, tx, nu, po, tk, tn, rf, up⟩ k = false) := Lib.hid (by rw [stq_16, HT.out, Bool.false_and, Bool.false_and])
  obtain ⟨n, hn⟩ : ∃ n, k.len = n := ⟨_, rfl⟩
  rw [hn]
  have HB0 : Hid (Below w.heap.size w (w.alloc (.cells #[.int .i64 16, .string tx, .int .i64 nu, .int .i64 po, .slice A n cap, .int .i64 tk, .string tn, .int .i64 rf, .int .i64 up] 26))) := Lib.hid (b1 w _)
  have HZ0 : Hid (w.heap.size < (w.alloc (.cells #[.int .i64 16, .string tx, .int .i64 nu, .int .i64 po, .slice A n cap, .int .i64 tk, .string tn, .int .i64 rf, .int .i64 up] 26)).heap.size) := Lib.hid (by simp)
  clear hn
  go_enter Tryz.func69, Tryz.ntmps69
  go_wp2
  go_ret
  exact ⟨ret_bool HX.out.symm, HB0.out⟩
theorem stq_13 (nu po tk rf up : Int) (tn : ByteArray) (tx : ByteArray) (k : Fo) : stOk nmv ⟨13, tx, nu, po, tk, tn, rf, up⟩ k = ((tx.data.toList == []) && true && one1 (fun h k => (kdOk nmv 30 h k || kdOk nmv 33 h k)) k) := by
  rw [stq nmv (l := [T.one [30, 33]]) rfl rfl rfl rfl, fitv_one, one_kd2]; rfl
set_option maxRecDepth 100000 in
set_option maxHeartbeats 4000000 in
theorem is_13pl (nu po tk rf up : Int) (tn : ByteArray)  (A : Option Addr) (cap : Nat) (k : Fo) (w : World)  (hl : ¬ k.len = 1) : CB' 69 w (.agg #[.int .i64 13, .string ⟨#[]⟩, .int .i64 nu, .int .i64 po, .slice A k.len cap, .int .i64 tk, .string tn, .int .i64 rf, .int .i64 up]) (stOk nmv ⟨13, ⟨#[]⟩, nu, po, tk, tn, rf, up⟩ k) := by
  have HX : Hid (stOk nmv ⟨13, ⟨#[]⟩, nu, po, tk, tn, rf, up⟩ k = false) := Lib.hid (by rw [stq_13, one1_len hl, Bool.and_false])
  obtain ⟨n, hn⟩ : ∃ n, k.len = n := ⟨_, rfl⟩
  rw [hn] at hl
  have hne : ((n : Int) == 1) = false := by rw [ieq1]; simpa using hl
  rw [show CB' 69 w (.agg #[.int .i64 13, .string ⟨#[]⟩, .int .i64 nu, .int .i64 po, .slice A k.len cap, .int .i64 tk, .string tn, .int .i64 rf, .int .i64 up]) (stOk nmv ⟨13, ⟨#[]⟩, nu, po, tk, tn, rf, up⟩ k) = CB' 69 w (.agg #[.int .i64 13, .string ⟨#[]⟩, .int .i64 nu, .int .i64 po, .slice A n cap, .int .i64 tk, .string tn, .int .i64 rf, .int .i64 up]) (stOk nmv ⟨13, ⟨#[]⟩, nu, po, tk, tn, rf, up⟩ k) by rw [hn]]
  have HB0 : Hid (Below w.heap.size w (w.alloc (.cells #[.int .i64 13, .string ⟨#[]⟩, .int .i64 nu, .int .i64 po, .slice A n cap, .int .i64 tk, .string tn, .int .i64 rf, .int .i64 up] 26))) := Lib.hid (b1 w _)
  have HZ0 : Hid (w.heap.size < (w.alloc (.cells #[.int .i64 13, .string ⟨#[]⟩, .int .i64 nu, .int .i64 po, .slice A n cap, .int .i64 tk, .string tn, .int .i64 rf, .int .i64 up] 26)).heap.size) := Lib.hid (by simp)
  clear hl hn
  go_enter Tryz.func69, Tryz.ntmps69
  go_wp2
  go_ret
  exact ⟨ret_bool HX.out.symm, HB0.out⟩
set_option maxRecDepth 100000 in
set_option maxHeartbeats 4000000 in
theorem is_13qf (nu po tk rf up : Int) (tn : ByteArray) (tx : ByteArray) (A : Option Addr) (cap : Nat) (k : Fo) (w : World) (HT : Hid ((tx.data.toList == []) = false)) (t1 : (tx.toList == []) = false) (t2 : tx.toList.isEmpty = false) : CB' 69 w (.agg #[.int .i64 13, .string tx, .int .i64 nu, .int .i64 po, .slice A k.len cap, .int .i64 tk, .string tn, .int .i64 rf, .int .i64 up]) (stOk nmv ⟨13, tx, nu, po, tk, tn, rf, up⟩ k) := by
  have HX : Hid (stOk nmv ⟨13, tx, nu, po, tk, tn, rf, up⟩ k = false) := Lib.hid (by rw [stq_13, HT.out, Bool.false_and, Bool.false_and])
  obtain ⟨n, hn⟩ : ∃ n, k.len = n := ⟨_, rfl⟩
  rw [hn]
  have HB0 : Hid (Below w.heap.size w (w.alloc (.cells #[.int .i64 13, .string tx, .int .i64 nu, .int .i64 po, .slice A n cap, .int .i64 tk, .string tn, .int .i64 rf, .int .i64 up] 26))) := Lib.hid (b1 w _)
  have HZ0 : Hid (w.heap.size < (w.alloc (.cells #[.int .i64 13, .string tx, .int .i64 nu, .int .i64 po, .slice A n cap, .int .i64 tk, .string tn, .int .i64 rf, .int .i64 up] 26)).heap.size) := Lib.hid (by simp)
  clear hn
  go_enter Tryz.func69, Tryz.ntmps69
  go_wp2
  go_ret
  exact ⟨ret_bool HX.out.symm, HB0.out⟩
set_option maxRecDepth 100000 in
set_option maxHeartbeats 4000000 in
theorem is_13py (nu po tk rf up : Int) (tn : ByteArray) (A : Option Addr) (cap : Nat) (k : Fo) (w : World) (hl : k.len = 1) (hk : Kids (Lt w.heap.size) w A k) (hE : ∀ h0 k0, k = .cons h0 k0 .nil → ∀ A0 c0, Kids (Lt w.heap.size) w A0 k0 → AtK 30 w (nv h0 A0 k0.len c0) (kdOk nmv 30 h0 k0) ∧ AtK 33 w (nv h0 A0 k0.len c0) (kdOk nmv 33 h0 k0)) : CB' 69 w (.agg #[.int .i64 13, .string ⟨#[]⟩, .int .i64 nu, .int .i64 po, .slice A k.len cap, .int .i64 tk, .string tn, .int .i64 rf, .int .i64 up]) (stOk nmv ⟨13, ⟨#[]⟩, nu, po, tk, tn, rf, up⟩ k) := by
  obtain ⟨h0, k0, rfl⟩ := is1 hl
  obtain ⟨g, o, A0, c0, rfl, ⟨d0, d1, d2, d3, d4, d5, d6, d7, d8⟩, hk0, hg⟩ := kidv1 hk
  have H1 := Lib.hid (hE h0 k0 rfl A0 c0 hk0).1
  have H2 := Lib.hid (hE h0 k0 rfl A0 c0 hk0).2
  have HX := Lib.hid (stq_13 nu po tk rf up tn (⟨#[]⟩) (.cons h0 k0 .nil))
  obtain ⟨a, ha⟩ : ∃ v, kdOk nmv 30 h0 k0 = v := ⟨_, rfl⟩
  obtain ⟨b, hb⟩ : ∃ v, kdOk nmv 33 h0 k0 = v := ⟨_, rfl⟩
  rw [show one1 (fun h k => (kdOk nmv 30 h k || kdOk nmv 33 h k)) (.cons h0 k0 .nil) = (a || b) by rw [← ha, ← hb]; rfl, show ((⟨#[]⟩ : ByteArray).data.toList == []) = true from rfl, Bool.true_and, Bool.true_and] at HX
  rw [ha] at H1
  rw [hb] at H2
  have hl1 : (Fo.cons h0 k0 .nil).len = 1 := rfl
  obtain ⟨n0, hn0⟩ : ∃ n, k0.len = n := ⟨_, rfl⟩
  rw [hn0] at H1 H2 d4
  rw [hl1]
  have hgn : ¬ g = w.heap.size := by omega
  have hg1 : g < w.heap.size + 1 := by omega
  have HB : Hid (Below w.heap.size w (w.alloc (.cells #[.int .i64 13, .string ⟨#[]⟩, .int .i64 nu, .int .i64 po, .slice (some ⟨g, o, none⟩) 1 cap, .int .i64 tk, .string tn, .int .i64 rf, .int .i64 up] 26))) := Lib.hid (b1 w _)
  have HZ : Hid (w.heap.size < (w.alloc (.cells #[.int .i64 13, .string ⟨#[]⟩, .int .i64 nu, .int .i64 po, .slice (some ⟨g, o, none⟩) 1 cap, .int .i64 tk, .string tn, .int .i64 rf, .int .i64 up] 26)).heap.size) := Lib.hid (by simp)
  clear ha hb hn0 hl1 hk hk0 hE hl
  cases a <;>
  · go_enter Tryz.func69, Tryz.ntmps69
    go_wp2_with (first
      | (go_at_call 93; (with_reducible refine (H1.out _ HB.out).mono ?_); rintro e w' ⟨rfl, hb⟩; have HB := Lib.hid (HB.out.trans (hb.mono HB.out.size)); obtain ⟨hc, hf⟩ := bcell hb; have hz : w.heap.size < w'.heap.size := by { have h1 := HZ.out; have h2 := hb.size; omega }; have hgz : g < w'.heap.size := (by omega); have HZ := Lib.hid hz; clear hb)
      | (go_at_call 93; (with_reducible refine (H2.out _ HB.out).mono ?_); rintro e w' ⟨rfl, hb⟩; have HB := Lib.hid (HB.out.trans (hb.mono HB.out.size)); obtain ⟨hc, hf⟩ := bcell hb; have hz : w.heap.size < w'.heap.size := by { have h1 := HZ.out; have h2 := hb.size; omega }; have hgz : g < w'.heap.size := (by omega); have HZ := Lib.hid hz; clear hb))
    go_ret
    exact ⟨ret_bool (by rw [HX.out]; simp), HB.out⟩
theorem stq_20 (nu po tk rf up : Int) (tn : ByteArray) (tx : ByteArray) (k : Fo) (hl : k.len ≤ 1) : stOk nmv ⟨20, tx, nu, po, tk, tn, rf, up⟩ k = ((tx.data.toList == []) && true && allB (exOk nmv) k) := by
  rw [stq nmv (l := List.replicate k.len isE) rfl (by show List.replicate (min k.len 1) isE = _; rw [show min k.len 1 = k.len by omega]) rfl rfl, fitv_rep]; rfl
theorem stq_20n (nu po tk rf up : Int) (tn : ByteArray) (tx : ByteArray) (k : Fo) (hl : ¬ k.len ≤ 1) : stOk nmv ⟨20, tx, nu, po, tk, tn, rf, up⟩ k = false := by
  rw [stq nmv (l := [isE]) rfl (by show List.replicate (min k.len 1) isE = _; rw [show min k.len 1 = 1 by omega]; rfl) rfl rfl, fitv_one, one1_len (by omega)]
  simp
set_option maxRecDepth 100000 in
set_option maxHeartbeats 4000000 in
theorem is_20y (nu po tk rf up : Int) (tn : ByteArray) (A : Option Addr) (cap : Nat) (k : Fo) (w : World) (hl : k.len ≤ 1) (hL : At 89 w (.slice A k.len cap) (allB (exOk nmv) k)) : CB' 69 w (.agg #[.int .i64 20, .string ⟨#[]⟩, .int .i64 nu, .int .i64 po, .slice A k.len cap, .int .i64 tk, .string tn, .int .i64 rf, .int .i64 up]) (stOk nmv ⟨20, ⟨#[]⟩, nu, po, tk, tn, rf, up⟩ k) := by
  have HX := Lib.hid (stq_20 nu po tk rf up tn ⟨#[]⟩ k hl)
  rw [show ((⟨#[]⟩ : ByteArray).data.toList == []) = true from rfl, Bool.true_and, Bool.true_and] at HX
  obtain ⟨v, hv⟩ : ∃ v, allB (exOk nmv) k = v := ⟨_, rfl⟩
  obtain ⟨n, hn⟩ : ∃ n, k.len = n := ⟨_, rfl⟩
  rw [hv] at HX hL
  rw [hn] at hl hL ⊢
  have HC := Lib.hid hL
  have hge : (n : Int) ≤ 1 := by omega
  have HB0 : Hid (Below w.heap.size w (w.alloc (.cells #[.int .i64 20, .string ⟨#[]⟩, .int .i64 nu, .int .i64 po, .slice A n cap, .int .i64 tk, .string tn, .int .i64 rf, .int .i64 up] 26))) := Lib.hid (b1 w _)
  have HZ0 : Hid (w.heap.size < (w.alloc (.cells #[.int .i64 20, .string ⟨#[]⟩, .int .i64 nu, .int .i64 po, .slice A n cap, .int .i64 tk, .string tn, .int .i64 rf, .int .i64 up] 26)).heap.size) := Lib.hid (by simp)
  clear hv hn hl hL
  go_enter Tryz.func69, Tryz.ntmps69
  go_wp2_with fail
  refine (HC.out _ HB0.out).mono ?_
  rintro e V1 ⟨rfl, hb⟩
  have HB1 := Lib.hid (HB0.out.trans (hb.mono HB0.out.size))
  obtain ⟨hc1, hf1⟩ := bcell hb
  have hz1 : w.heap.size < V1.heap.size := by have := hb.size; have := HZ0.out; omega
  have HZ1 := Lib.hid hz1
  clear hb
  go_wp2
  go_ret
  exact ⟨ret_bool HX.out.symm, HB1.out⟩
set_option maxRecDepth 100000 in
set_option maxHeartbeats 4000000 in
theorem is_20l (nu po tk rf up : Int) (tn : ByteArray) (A : Option Addr) (cap : Nat) (k : Fo) (w : World) (hl : ¬ k.len ≤ 1) : CB' 69 w (.agg #[.int .i64 20, .string ⟨#[]⟩, .int .i64 nu, .int .i64 po, .slice A k.len cap, .int .i64 tk, .string tn, .int .i64 rf, .int .i64 up]) (stOk nmv ⟨20, ⟨#[]⟩, nu, po, tk, tn, rf, up⟩ k) := by
  have HX := Lib.hid (stq_20n nu po tk rf up tn ⟨#[]⟩ k hl)
  obtain ⟨n, hn⟩ : ∃ n, k.len = n := ⟨_, rfl⟩
  rw [hn] at hl ⊢
  have hge : ¬ (n : Int) ≤ 1 := by omega
  have HB0 : Hid (Below w.heap.size w (w.alloc (.cells #[.int .i64 20, .string ⟨#[]⟩, .int .i64 nu, .int .i64 po, .slice A n cap, .int .i64 tk, .string tn, .int .i64 rf, .int .i64 up] 26))) := Lib.hid (b1 w _)
  have HZ0 : Hid (w.heap.size < (w.alloc (.cells #[.int .i64 20, .string ⟨#[]⟩, .int .i64 nu, .int .i64 po, .slice A n cap, .int .i64 tk, .string tn, .int .i64 rf, .int .i64 up] 26)).heap.size) := Lib.hid (by simp)
  clear hn hl
  go_enter Tryz.func69, Tryz.ntmps69
  go_wp2
  go_ret
  exact ⟨ret_bool HX.out.symm, HB0.out⟩
set_option maxRecDepth 100000 in
set_option maxHeartbeats 4000000 in
theorem is_20f (nu po tk rf up : Int) (tn : ByteArray) (tx : ByteArray) (A : Option Addr) (cap : Nat) (k : Fo) (w : World) (HT : Hid ((tx.data.toList == []) = false)) (t1 : (tx.toList == []) = false) (t2 : tx.toList.isEmpty = false) : CB' 69 w (.agg #[.int .i64 20, .string tx, .int .i64 nu, .int .i64 po, .slice A k.len cap, .int .i64 tk, .string tn, .int .i64 rf, .int .i64 up]) (stOk nmv ⟨20, tx, nu, po, tk, tn, rf, up⟩ k) := by
  have HX : Hid (stOk nmv ⟨20, tx, nu, po, tk, tn, rf, up⟩ k = false) := Lib.hid (by
    by_cases hl : k.len ≤ 1
    · rw [stq_20 nu po tk rf up tn tx _ hl, HT.out, Bool.false_and, Bool.false_and]
    · exact stq_20n nu po tk rf up tn tx k hl)
  obtain ⟨n, hn⟩ : ∃ n, k.len = n := ⟨_, rfl⟩
  rw [hn]
  have HB0 : Hid (Below w.heap.size w (w.alloc (.cells #[.int .i64 20, .string tx, .int .i64 nu, .int .i64 po, .slice A n cap, .int .i64 tk, .string tn, .int .i64 rf, .int .i64 up] 26))) := Lib.hid (b1 w _)
  have HZ0 : Hid (w.heap.size < (w.alloc (.cells #[.int .i64 20, .string tx, .int .i64 nu, .int .i64 po, .slice A n cap, .int .i64 tk, .string tn, .int .i64 rf, .int .i64 up] 26)).heap.size) := Lib.hid (by simp)
  clear hn
  go_enter Tryz.func69, Tryz.ntmps69
  go_wp2
  go_ret
  exact ⟨ret_bool HX.out.symm, HB0.out⟩
theorem stq_19 (nu po tk rf up : Int) (tn : ByteArray) (tx : ByteArray) (k : Fo) : stOk nmv ⟨19, tx, nu, po, tk, tn, rf, up⟩ k = ((tx.data.toList == []) && true && two2 (fun h k => (noOk nmv h k || exOk nmv h k)) (kdOk nmv 10) k) := by
  rw [stq nmv (l := [opt isE, T.one [10]]) rfl rfl rfl rfl, fitv_two, one_kd, oeq']; rfl
set_option maxRecDepth 100000 in
set_option maxHeartbeats 4000000 in
theorem is_19y (nu po tk rf up : Int) (tn : ByteArray) (A : Option Addr) (cap : Nat) (k : Fo) (w : World) (hl : k.len = 2) (hk : Kids (Lt w.heap.size) w A k) (hE : k.All CE) (hB : k.All CBl) : CB' 69 w (.agg #[.int .i64 19, .string ⟨#[]⟩, .int .i64 nu, .int .i64 po, .slice A k.len cap, .int .i64 tk, .string tn, .int .i64 rf, .int .i64 up]) (stOk nmv ⟨19, ⟨#[]⟩, nu, po, tk, tn, rf, up⟩ k) := by
  obtain ⟨h0, k0, h1, k1, rfl⟩ := is2 hl
  obtain ⟨g, o, A0, c0, A1, c1, rfl, ⟨d0, d1, d2, d3, d4, d5, d6, d7, d8⟩, hk0, ⟨p0, p1, p2, p3, p4, p5, p6, p7, p8⟩, hk1, hg⟩ := kid2 hk
  have HE := Lib.hid (CE.at (cap := c0) hE.1 hk0)
  have HBl := Lib.hid (CBl.at (cap := c1) hB.2.1 hk1)
  have HO : Hid (∀ V, Below w.heap.size w V → CB' 48 V (nv h0 A0 k0.len c0) (noOk nmv h0 k0)) := Lib.hid fun V _ => isNone_any h0 k0 A0 c0 V
  have HX := Lib.hid (stq_19 nu po tk rf up tn ⟨#[]⟩ (.cons h0 k0 (.cons h1 k1 .nil)))
  obtain ⟨a, ha⟩ : ∃ v, noOk nmv h0 k0 = v := ⟨_, rfl⟩
  obtain ⟨b, hb⟩ : ∃ v, exOk nmv h0 k0 = v := ⟨_, rfl⟩
  obtain ⟨c, hc⟩ : ∃ v, kdOk nmv 10 h1 k1 = v := ⟨_, rfl⟩
  rw [show ((⟨#[]⟩ : ByteArray).data.toList == []) = true from rfl, Bool.true_and, Bool.true_and, show two2 (fun h k => (noOk nmv h k || exOk nmv h k)) (kdOk nmv 10) (.cons h0 k0 (.cons h1 k1 .nil)) = ((noOk nmv h0 k0 || exOk nmv h0 k0) && kdOk nmv 10 h1 k1) from rfl, ha, hb, hc] at HX
  rw [ha] at HO
  rw [hb] at HE
  rw [hc] at HBl
  obtain ⟨n0, hn0⟩ : ∃ n, k0.len = n := ⟨_, rfl⟩
  obtain ⟨n1, hn1⟩ : ∃ n, k1.len = n := ⟨_, rfl⟩
  rw [hn0] at HO HE d4
  rw [hn1] at HBl p4
  have hl2 : (Fo.cons h0 k0 (.cons h1 k1 .nil)).len = 2 := rfl
  rw [hl2]
  have hgn : ¬ g = w.heap.size := by omega
  have hg1 : g < w.heap.size + 1 := by omega
  have HB : Hid (Below w.heap.size w (w.alloc (.cells #[.int .i64 19, .string ⟨#[]⟩, .int .i64 nu, .int .i64 po, .slice (some ⟨g, o, none⟩) 2 cap, .int .i64 tk, .string tn, .int .i64 rf, .int .i64 up] 26))) := Lib.hid (b1 w _)
  have HZ : Hid (w.heap.size < (w.alloc (.cells #[.int .i64 19, .string ⟨#[]⟩, .int .i64 nu, .int .i64 po, .slice (some ⟨g, o, none⟩) 2 cap, .int .i64 tk, .string tn, .int .i64 rf, .int .i64 up] 26)).heap.size) := Lib.hid (by simp)
  clear ha hb hc hn0 hn1 hl2 hk hk0 hk1 hE hB hl
  cases a <;> cases b <;>
  · go_enter Tryz.func69, Tryz.ntmps69
    go_wp2_with (first
      | (go_at_call 48; (with_reducible refine (HO.out _ HB.out).mono ?_); rintro e w' ⟨rfl, hb⟩; have HB := Lib.hid (HB.out.trans (hb.mono HB.out.size)); obtain ⟨hc, hf⟩ := bcell hb; have hz : w.heap.size < w'.heap.size := by { have h1 := HZ.out; have h2 := hb.size; omega }; have hgz : g < w'.heap.size := (by omega); have HZ := Lib.hid hz; clear hb)
      | (go_at_call 67; (with_reducible refine (HE.out _ HB.out).mono ?_); rintro e w' ⟨rfl, hb⟩; have HB := Lib.hid (HB.out.trans (hb.mono HB.out.size)); obtain ⟨hc, hf⟩ := bcell hb; have hz : w.heap.size < w'.heap.size := by { have h1 := HZ.out; have h2 := hb.size; omega }; have hgz : g < w'.heap.size := (by omega); have HZ := Lib.hid hz; clear hb)
      | (go_at_call 50; (with_reducible refine (HBl.out _ HB.out).mono ?_); rintro e w' ⟨rfl, hb⟩; have HB := Lib.hid (HB.out.trans (hb.mono HB.out.size)); obtain ⟨hc, hf⟩ := bcell hb; have hz : w.heap.size < w'.heap.size := by { have h1 := HZ.out; have h2 := hb.size; omega }; have hgz : g < w'.heap.size := (by omega); have HZ := Lib.hid hz; clear hb))
    go_ret
    exact ⟨ret_bool (by rw [HX.out]; simp), HB.out⟩
set_option maxRecDepth 100000 in
set_option maxHeartbeats 4000000 in
theorem is_19l (nu po tk rf up : Int) (tn : ByteArray)  (A : Option Addr) (cap : Nat) (k : Fo) (w : World) (hl : ¬ k.len = 2) : CB' 69 w (.agg #[.int .i64 19, .string ⟨#[]⟩, .int .i64 nu, .int .i64 po, .slice A k.len cap, .int .i64 tk, .string tn, .int .i64 rf, .int .i64 up]) (stOk nmv ⟨19, ⟨#[]⟩, nu, po, tk, tn, rf, up⟩ k) := by
  have HX : Hid (stOk nmv ⟨19, ⟨#[]⟩, nu, po, tk, tn, rf, up⟩ k = false) := Lib.hid (by rw [stq_19, two2_len hl, Bool.and_false])
  obtain ⟨n, hn⟩ : ∃ n, k.len = n := ⟨_, rfl⟩
  rw [hn] at hl
  have hne : ((n : Int) == 2) = false := by rw [ieq2]; simpa using hl
  rw [show CB' 69 w (.agg #[.int .i64 19, .string ⟨#[]⟩, .int .i64 nu, .int .i64 po, .slice A k.len cap, .int .i64 tk, .string tn, .int .i64 rf, .int .i64 up]) (stOk nmv ⟨19, ⟨#[]⟩, nu, po, tk, tn, rf, up⟩ k) = CB' 69 w (.agg #[.int .i64 19, .string ⟨#[]⟩, .int .i64 nu, .int .i64 po, .slice A n cap, .int .i64 tk, .string tn, .int .i64 rf, .int .i64 up]) (stOk nmv ⟨19, ⟨#[]⟩, nu, po, tk, tn, rf, up⟩ k) by rw [hn]]
  clear hl hn
  go_enter Tryz.func69, Tryz.ntmps69
  go_wp2
  go_ret
  exact ⟨ret_bool HX.out.symm, b1 _ _⟩
set_option maxRecDepth 100000 in
set_option maxHeartbeats 4000000 in
theorem is_19f (nu po tk rf up : Int) (tn : ByteArray) (tx : ByteArray) (A : Option Addr) (cap : Nat) (k : Fo) (w : World) (HT : Hid ((tx.data.toList == []) = false)) (t1 : (tx.toList == []) = false) (t2 : tx.toList.isEmpty = false) : CB' 69 w (.agg #[.int .i64 19, .string tx, .int .i64 nu, .int .i64 po, .slice A k.len cap, .int .i64 tk, .string tn, .int .i64 rf, .int .i64 up]) (stOk nmv ⟨19, tx, nu, po, tk, tn, rf, up⟩ k) := by
  have HX : Hid (stOk nmv ⟨19, tx, nu, po, tk, tn, rf, up⟩ k = false) := Lib.hid (by rw [stq_19, HT.out, Bool.false_and, Bool.false_and])
  obtain ⟨n, hn⟩ : ∃ n, k.len = n := ⟨_, rfl⟩
  rw [hn]
  clear hn
  go_enter Tryz.func69, Tryz.ntmps69
  go_wp2
  go_ret
  exact ⟨ret_bool HX.out.symm, b1 _ _⟩
set_option maxRecDepth 100000 in
set_option maxHeartbeats 4000000 in
theorem is_6 (nu po tk rf up : Int) (tn : ByteArray) (tx : ByteArray) (A : Option Addr) (cap : Nat) (k : Fo) (w : World) (hC : At 47 w (.agg #[.int .i64 6, .string tx, .int .i64 nu, .int .i64 po, .slice A k.len cap, .int .i64 tk, .string tn, .int .i64 rf, .int .i64 up]) (kdOk nmv 6 ⟨6, tx, nu, po, tk, tn, rf, up⟩ k)) : CB' 69 w (.agg #[.int .i64 6, .string tx, .int .i64 nu, .int .i64 po, .slice A k.len cap, .int .i64 tk, .string tn, .int .i64 rf, .int .i64 up]) (stOk nmv ⟨6, tx, nu, po, tk, tn, rf, up⟩ k) := by
  have HX : Hid (stOk nmv ⟨6, tx, nu, po, tk, tn, rf, up⟩ k = kdOk nmv 6 ⟨6, tx, nu, po, tk, tn, rf, up⟩ k) := Lib.hid rfl
  obtain ⟨v, hv⟩ : ∃ v, kdOk nmv 6 ⟨6, tx, nu, po, tk, tn, rf, up⟩ k = v := ⟨_, rfl⟩
  rw [hv] at HX hC
  obtain ⟨n, hn⟩ : ∃ n, k.len = n := ⟨_, rfl⟩
  rw [hn] at hC
  rw [hn]
  have HC := Lib.hid hC
  have HB0 : Hid (Below w.heap.size w (w.alloc (.cells #[.int .i64 6, .string tx, .int .i64 nu, .int .i64 po, .slice A n cap, .int .i64 tk, .string tn, .int .i64 rf, .int .i64 up] 26))) := Lib.hid (b1 w _)
  have HZ0 : Hid (w.heap.size < (w.alloc (.cells #[.int .i64 6, .string tx, .int .i64 nu, .int .i64 po, .slice A n cap, .int .i64 tk, .string tn, .int .i64 rf, .int .i64 up] 26)).heap.size) := Lib.hid (by simp)
  clear hv hn hC
  go_enter Tryz.func69, Tryz.ntmps69
  go_wp2_with fail
  refine (HC.out _ HB0.out).mono ?_
  rintro e V1 ⟨rfl, hb⟩
  have HB1 := Lib.hid (HB0.out.trans (hb.mono HB0.out.size))
  obtain ⟨hc1, hf1⟩ := bcell hb
  have hz1 : w.heap.size < V1.heap.size := by have := hb.size; have := HZ0.out; omega
  have HZ1 := Lib.hid hz1
  clear hb
  go_wp2
  go_ret
  exact ⟨ret_bool HX.out.symm, HB1.out⟩
set_option maxRecDepth 100000 in
set_option maxHeartbeats 4000000 in
theorem is_10 (nu po tk rf up : Int) (tn : ByteArray) (tx : ByteArray) (A : Option Addr) (cap : Nat) (k : Fo) (w : World) (hC : At 50 w (.agg #[.int .i64 10, .string tx, .int .i64 nu, .int .i64 po, .slice A k.len cap, .int .i64 tk, .string tn, .int .i64 rf, .int .i64 up]) (kdOk nmv 10 ⟨10, tx, nu, po, tk, tn, rf, up⟩ k)) : CB' 69 w (.agg #[.int .i64 10, .string tx, .int .i64 nu, .int .i64 po, .slice A k.len cap, .int .i64 tk, .string tn, .int .i64 rf, .int .i64 up]) (stOk nmv ⟨10, tx, nu, po, tk, tn, rf, up⟩ k) := by
  have HX : Hid (stOk nmv ⟨10, tx, nu, po, tk, tn, rf, up⟩ k = kdOk nmv 10 ⟨10, tx, nu, po, tk, tn, rf, up⟩ k) := Lib.hid rfl
  obtain ⟨v, hv⟩ : ∃ v, kdOk nmv 10 ⟨10, tx, nu, po, tk, tn, rf, up⟩ k = v := ⟨_, rfl⟩
  rw [hv] at HX hC
  obtain ⟨n, hn⟩ : ∃ n, k.len = n := ⟨_, rfl⟩
  rw [hn] at hC
  rw [hn]
  have HC := Lib.hid hC
  have HB0 : Hid (Below w.heap.size w (w.alloc (.cells #[.int .i64 10, .string tx, .int .i64 nu, .int .i64 po, .slice A n cap, .int .i64 tk, .string tn, .int .i64 rf, .int .i64 up] 26))) := Lib.hid (b1 w _)
  have HZ0 : Hid (w.heap.size < (w.alloc (.cells #[.int .i64 10, .string tx, .int .i64 nu, .int .i64 po, .slice A n cap, .int .i64 tk, .string tn, .int .i64 rf, .int .i64 up] 26)).heap.size) := Lib.hid (by simp)
  clear hv hn hC
  go_enter Tryz.func69, Tryz.ntmps69
  go_wp2_with fail
  refine (HC.out _ HB0.out).mono ?_
  rintro e V1 ⟨rfl, hb⟩
  have HB1 := Lib.hid (HB0.out.trans (hb.mono HB0.out.size))
  obtain ⟨hc1, hf1⟩ := bcell hb
  have hz1 : w.heap.size < V1.heap.size := by have := hb.size; have := HZ0.out; omega
  have HZ1 := Lib.hid hz1
  clear hb
  go_wp2
  go_ret
  exact ⟨ret_bool HX.out.symm, HB1.out⟩
set_option maxRecDepth 100000 in
set_option maxHeartbeats 4000000 in
theorem is_18 (nu po tk rf up : Int) (tn : ByteArray) (tx : ByteArray) (A : Option Addr) (cap : Nat) (k : Fo) (w : World) (hC : At 91 w (.agg #[.int .i64 18, .string tx, .int .i64 nu, .int .i64 po, .slice A k.len cap, .int .i64 tk, .string tn, .int .i64 rf, .int .i64 up]) (kdOk nmv 18 ⟨18, tx, nu, po, tk, tn, rf, up⟩ k)) : CB' 69 w (.agg #[.int .i64 18, .string tx, .int .i64 nu, .int .i64 po, .slice A k.len cap, .int .i64 tk, .string tn, .int .i64 rf, .int .i64 up]) (stOk nmv ⟨18, tx, nu, po, tk, tn, rf, up⟩ k) := by
  have HX : Hid (stOk nmv ⟨18, tx, nu, po, tk, tn, rf, up⟩ k = kdOk nmv 18 ⟨18, tx, nu, po, tk, tn, rf, up⟩ k) := Lib.hid rfl
  obtain ⟨v, hv⟩ : ∃ v, kdOk nmv 18 ⟨18, tx, nu, po, tk, tn, rf, up⟩ k = v := ⟨_, rfl⟩
  rw [hv] at HX hC
  obtain ⟨n, hn⟩ : ∃ n, k.len = n := ⟨_, rfl⟩
  rw [hn] at hC
  rw [hn]
  have HC := Lib.hid hC
  have HB0 : Hid (Below w.heap.size w (w.alloc (.cells #[.int .i64 18, .string tx, .int .i64 nu, .int .i64 po, .slice A n cap, .int .i64 tk, .string tn, .int .i64 rf, .int .i64 up] 26))) := Lib.hid (b1 w _)
  have HZ0 : Hid (w.heap.size < (w.alloc (.cells #[.int .i64 18, .string tx, .int .i64 nu, .int .i64 po, .slice A n cap, .int .i64 tk, .string tn, .int .i64 rf, .int .i64 up] 26)).heap.size) := Lib.hid (by simp)
  clear hv hn hC
  go_enter Tryz.func69, Tryz.ntmps69
  go_wp2_with fail
  refine (HC.out _ HB0.out).mono ?_
  rintro e V1 ⟨rfl, hb⟩
  have HB1 := Lib.hid (HB0.out.trans (hb.mono HB0.out.size))
  obtain ⟨hc1, hf1⟩ := bcell hb
  have hz1 : w.heap.size < V1.heap.size := by have := hb.size; have := HZ0.out; omega
  have HZ1 := Lib.hid hz1
  clear hb
  go_wp2
  go_ret
  exact ⟨ret_bool HX.out.symm, HB1.out⟩
set_option maxRecDepth 100000 in
set_option maxHeartbeats 4000000 in
theorem is_22 (nu po tk rf up : Int) (tn : ByteArray) (tx : ByteArray) (A : Option Addr) (cap : Nat) (k : Fo) (w : World) (hC : At 92 w (.agg #[.int .i64 22, .string tx, .int .i64 nu, .int .i64 po, .slice A k.len cap, .int .i64 tk, .string tn, .int .i64 rf, .int .i64 up]) (kdOk nmv 22 ⟨22, tx, nu, po, tk, tn, rf, up⟩ k)) : CB' 69 w (.agg #[.int .i64 22, .string tx, .int .i64 nu, .int .i64 po, .slice A k.len cap, .int .i64 tk, .string tn, .int .i64 rf, .int .i64 up]) (stOk nmv ⟨22, tx, nu, po, tk, tn, rf, up⟩ k) := by
  have HX : Hid (stOk nmv ⟨22, tx, nu, po, tk, tn, rf, up⟩ k = kdOk nmv 22 ⟨22, tx, nu, po, tk, tn, rf, up⟩ k) := Lib.hid rfl
  obtain ⟨v, hv⟩ : ∃ v, kdOk nmv 22 ⟨22, tx, nu, po, tk, tn, rf, up⟩ k = v := ⟨_, rfl⟩
  rw [hv] at HX hC
  obtain ⟨n, hn⟩ : ∃ n, k.len = n := ⟨_, rfl⟩
  rw [hn] at hC
  rw [hn]
  have HC := Lib.hid hC
  have HB0 : Hid (Below w.heap.size w (w.alloc (.cells #[.int .i64 22, .string tx, .int .i64 nu, .int .i64 po, .slice A n cap, .int .i64 tk, .string tn, .int .i64 rf, .int .i64 up] 26))) := Lib.hid (b1 w _)
  have HZ0 : Hid (w.heap.size < (w.alloc (.cells #[.int .i64 22, .string tx, .int .i64 nu, .int .i64 po, .slice A n cap, .int .i64 tk, .string tn, .int .i64 rf, .int .i64 up] 26)).heap.size) := Lib.hid (by simp)
  clear hv hn hC
  go_enter Tryz.func69, Tryz.ntmps69
  go_wp2_with fail
  refine (HC.out _ HB0.out).mono ?_
  rintro e V1 ⟨rfl, hb⟩
  have HB1 := Lib.hid (HB0.out.trans (hb.mono HB0.out.size))
  obtain ⟨hc1, hf1⟩ := bcell hb
  have hz1 : w.heap.size < V1.heap.size := by have := hb.size; have := HZ0.out; omega
  have HZ1 := Lib.hid hz1
  clear hb
  go_wp2
  go_ret
  exact ⟨ret_bool HX.out.symm, HB1.out⟩
set_option maxRecDepth 100000 in
set_option maxHeartbeats 4000000 in
theorem is_no (h : Hd) (A : Option Addr) (cap : Nat) (k : Fo) (w : World) (he : stmtK h.kind = false) : CB' 69 w (nv h A k.len cap) (stOk nmv h k) := by
  have HX : Hid (stOk nmv h k = false) := Lib.hid (by unfold stOk; rw [he]; rfl)
  simp only [stmtK, Bool.or_eq_false_iff] at he
  obtain ⟨⟨⟨⟨⟨⟨⟨⟨⟨⟨⟨⟨⟨x0, x1⟩, x2⟩, x3⟩, x4⟩, x5⟩, x6⟩, x7⟩, x8⟩, x9⟩, x10⟩, x11⟩, x12⟩, x13⟩ := he
  obtain ⟨n, hn⟩ : ∃ n, k.len = n := ⟨_, rfl⟩
  rw [hn]
  clear hn
  go_enter Tryz.func69, Tryz.ntmps69
  go_wp2
  go_ret
  exact ⟨ret_bool HX.out.symm, b1 _ _⟩
end Go.Proofs.YticbcnhbpbaocaaGreatDoor
