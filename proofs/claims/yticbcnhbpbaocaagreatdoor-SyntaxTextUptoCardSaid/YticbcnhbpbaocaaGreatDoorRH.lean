/-
  The walks of the specification's isComm, isSelect; its statements, all together.
-/
import Derived.Test.YticbcnhbpbaocaaGreatDoorRG
set_option linter.all false
namespace Go.Proofs.YticbcnhbpbaocaaGreatDoor
open Go.RowKit T T.Fo
set_option maxRecDepth 100000 in
set_option maxHeartbeats 4000000 in
theorem co_16 (kd : Int) (hkd : kd = 16 ∨ kd = 9) (nu po tk rf up : Int) (tn : ByteArray) (tx : ByteArray) (A : Option Addr) (cap : Nat) (k : Fo) (w : World) (hS : At 69 w (.agg #[.int .i64 kd, .string tx, .int .i64 nu, .int .i64 po, .slice A k.len cap, .int .i64 tk, .string tn, .int .i64 rf, .int .i64 up]) (stOk nmv ⟨kd, tx, nu, po, tk, tn, rf, up⟩ k)) : CB' 113 w (.agg #[.int .i64 kd, .string tx, .int .i64 nu, .int .i64 po, .slice A k.len cap, .int .i64 tk, .string tn, .int .i64 rf, .int .i64 up]) (coOk nmv ⟨kd, tx, nu, po, tk, tn, rf, up⟩ k) := by
  have HO : Hid (∀ V, Below w.heap.size w V → CB' 48 V (.agg #[.int .i64 kd, .string tx, .int .i64 nu, .int .i64 po, .slice A k.len cap, .int .i64 tk, .string tn, .int .i64 rf, .int .i64 up]) (noOk nmv ⟨kd, tx, nu, po, tk, tn, rf, up⟩ k)) := Lib.hid fun V _ => isNone_any ⟨kd, tx, nu, po, tk, tn, rf, up⟩ k A cap V
  have HX : Hid (coOk nmv ⟨kd, tx, nu, po, tk, tn, rf, up⟩ k = (stOk nmv ⟨kd, tx, nu, po, tk, tn, rf, up⟩ k || noOk nmv ⟨kd, tx, nu, po, tk, tn, rf, up⟩ k)) := Lib.hid (by
    unfold coOk stOk noOk commT
    rcases hkd with rfl | rfl <;> simp [stmtK])
  obtain ⟨a, ha⟩ : ∃ v, stOk nmv ⟨kd, tx, nu, po, tk, tn, rf, up⟩ k = v := ⟨_, rfl⟩
  obtain ⟨b, hb⟩ : ∃ v, noOk nmv ⟨kd, tx, nu, po, tk, tn, rf, up⟩ k = v := ⟨_, rfl⟩
  rw [ha, hb] at HX
  rw [ha] at hS
  rw [hb] at HO
  obtain ⟨n, hn⟩ : ∃ n, k.len = n := ⟨_, rfl⟩
  rw [hn] at hS HO ⊢
  have HS := Lib.hid hS
  have HB : Hid (Below w.heap.size w (w.alloc (.cells #[.int .i64 kd, .string tx, .int .i64 nu, .int .i64 po, .slice A n cap, .int .i64 tk, .string tn, .int .i64 rf, .int .i64 up] 26))) := Lib.hid (b1 w _)
  have HZ : Hid (w.heap.size < (w.alloc (.cells #[.int .i64 kd, .string tx, .int .i64 nu, .int .i64 po, .slice A n cap, .int .i64 tk, .string tn, .int .i64 rf, .int .i64 up] 26)).heap.size) := Lib.hid (by simp)
  clear ha hb hn hS
  rcases hkd with rfl | rfl <;> cases a <;>
  · go_enter Tryz.func113, Tryz.ntmps113
    go_wp2_with (first
      | (go_at_call 69; (with_reducible refine (HS.out _ HB.out).mono ?_); rintro e w' ⟨rfl, hb⟩; have HB := Lib.hid (HB.out.trans (hb.mono HB.out.size)); obtain ⟨hc, hf⟩ := bcell hb; have hz : w.heap.size < w'.heap.size := by { have h1 := HZ.out; have h2 := hb.size; omega }; have HZ := Lib.hid hz; clear hb)
      | (go_at_call 48; (with_reducible refine (HO.out _ HB.out).mono ?_); rintro e w' ⟨rfl, hb⟩; have HB := Lib.hid (HB.out.trans (hb.mono HB.out.size)); obtain ⟨hc, hf⟩ := bcell hb; have hz : w.heap.size < w'.heap.size := by { have h1 := HZ.out; have h2 := hb.size; omega }; have HZ := Lib.hid hz; clear hb))
    go_ret
    exact ⟨ret_bool (by rw [HX.out]; simp), HB.out⟩
set_option maxRecDepth 100000 in
set_option maxHeartbeats 4000000 in
theorem co_13n (nu po tk rf up : Int) (tn : ByteArray) (tx : ByteArray) (A : Option Addr) (cap : Nat) (k : Fo) (w : World) (hv : stOk nmv ⟨13, tx, nu, po, tk, tn, rf, up⟩ k = false) (hS : At 69 w (.agg #[.int .i64 13, .string tx, .int .i64 nu, .int .i64 po, .slice A k.len cap, .int .i64 tk, .string tn, .int .i64 rf, .int .i64 up]) (stOk nmv ⟨13, tx, nu, po, tk, tn, rf, up⟩ k)) : CB' 113 w (.agg #[.int .i64 13, .string tx, .int .i64 nu, .int .i64 po, .slice A k.len cap, .int .i64 tk, .string tn, .int .i64 rf, .int .i64 up]) (coOk nmv ⟨13, tx, nu, po, tk, tn, rf, up⟩ k) := by
  have HX : Hid (coOk nmv ⟨13, tx, nu, po, tk, tn, rf, up⟩ k = false) := Lib.hid (by
    have e : okT nmv ⟨13, tx, nu, po, tk, tn, rf, up⟩ k = false := hv
    unfold coOk
    rw [e, Bool.and_false])
  rw [hv] at hS
  obtain ⟨n, hn⟩ : ∃ n, k.len = n := ⟨_, rfl⟩
  rw [hn] at hS ⊢
  have HC := Lib.hid hS
  have HB0 : Hid (Below w.heap.size w (w.alloc (.cells #[.int .i64 13, .string tx, .int .i64 nu, .int .i64 po, .slice A n cap, .int .i64 tk, .string tn, .int .i64 rf, .int .i64 up] 26))) := Lib.hid (b1 w _)
  have HZ0 : Hid (w.heap.size < (w.alloc (.cells #[.int .i64 13, .string tx, .int .i64 nu, .int .i64 po, .slice A n cap, .int .i64 tk, .string tn, .int .i64 rf, .int .i64 up] 26)).heap.size) := Lib.hid (by simp)
  clear hv hn hS
  go_enter Tryz.func113, Tryz.ntmps113
  go_wp2_with fail
  refine (HC.out _ HB0.out).mono ?_
  rintro e V1 ⟨rfl, hb⟩
  have HB1 := Lib.hid (HB0.out.trans (hb.mono HB0.out.size))
  obtain ⟨hc1, hf1⟩ := bcell hb
  have hz1 : w.heap.size < V1.heap.size := by have := hb.size; have := HZ0.out; omega
  have HZ1 := Lib.hid hz1
  clear hb
  go_wp2
  go_ret
  exact ⟨ret_bool HX.out.symm, HB1.out⟩
set_option maxRecDepth 100000 in
set_option maxHeartbeats 4000000 in
theorem co_13y (nu po tk rf up : Int) (tn : ByteArray) (tx : ByteArray) (A : Option Addr) (cap : Nat) (k : Fo) (w : World) (hl : k.len = 1) (hv : stOk nmv ⟨13, tx, nu, po, tk, tn, rf, up⟩ k = true) (hk : Kids (Lt w.heap.size) w A k) (hS : At 69 w (.agg #[.int .i64 13, .string tx, .int .i64 nu, .int .i64 po, .slice A k.len cap, .int .i64 tk, .string tn, .int .i64 rf, .int .i64 up]) (stOk nmv ⟨13, tx, nu, po, tk, tn, rf, up⟩ k)) : CB' 113 w (.agg #[.int .i64 13, .string tx, .int .i64 nu, .int .i64 po, .slice A k.len cap, .int .i64 tk, .string tn, .int .i64 rf, .int .i64 up]) (coOk nmv ⟨13, tx, nu, po, tk, tn, rf, up⟩ k) := by
  obtain ⟨h0, k0, rfl⟩ := is1 hl
  obtain ⟨g, o, A0, c0, rfl, ⟨d0, d1, d2, d3, d4, d5, d6, d7, d8⟩, hk0, hg⟩ := kidv1 hk
  have HX : Hid (coOk nmv ⟨13, tx, nu, po, tk, tn, rf, up⟩ (.cons h0 k0 .nil) = (h0.kind == 33)) := Lib.hid (by
    have e : okT nmv ⟨13, tx, nu, po, tk, tn, rf, up⟩ (.cons h0 k0 .nil) = true := hv
    unfold coOk
    rw [e, Bool.and_true]
    show ((13 : Int) == 9 || ((13 : Int) == 16 || (((13 : Int) == 13 || (13 : Int) == 12 || (13 : Int) == 11) && h0.kind == 33))) = _
    simp)
  rw [hv] at hS
  have hl1 : (Fo.cons h0 k0 .nil).len = 1 := rfl
  rw [hl1] at hS ⊢
  have HC := Lib.hid hS
  have hgn : ¬ g = w.heap.size := by omega
  have hg1 : g < w.heap.size + 1 := by omega
  have HB0 : Hid (Below w.heap.size w (w.alloc (.cells #[.int .i64 13, .string tx, .int .i64 nu, .int .i64 po, .slice (some ⟨g, o, none⟩) 1 cap, .int .i64 tk, .string tn, .int .i64 rf, .int .i64 up] 26))) := Lib.hid (b1 w _)
  have HZ0 : Hid (w.heap.size < (w.alloc (.cells #[.int .i64 13, .string tx, .int .i64 nu, .int .i64 po, .slice (some ⟨g, o, none⟩) 1 cap, .int .i64 tk, .string tn, .int .i64 rf, .int .i64 up] 26)).heap.size) := Lib.hid (by simp)
  clear hv hl1 hS hl hk hk0
  go_enter Tryz.func113, Tryz.ntmps113
  go_wp2_with fail
  refine (HC.out _ HB0.out).mono ?_
  rintro e V1 ⟨rfl, hb⟩
  have HB1 := Lib.hid (HB0.out.trans (hb.mono HB0.out.size))
  obtain ⟨hc1, hf1⟩ := bcell hb
  have hz1 : w.heap.size < V1.heap.size := by have := hb.size; have := HZ0.out; omega
  have HZ1 := Lib.hid hz1
  clear hb
  go_wp2
  all_goals go_ret
  all_goals exact ⟨ret_bool (by rw [HX.out]; try simp_all), HB1.out⟩
set_option maxRecDepth 100000 in
set_option maxHeartbeats 4000000 in
theorem co_11n (nu po tk rf up : Int) (tn : ByteArray) (tx : ByteArray) (A : Option Addr) (cap : Nat) (k : Fo) (w : World) (hv : stOk nmv ⟨11, tx, nu, po, tk, tn, rf, up⟩ k = false) (hS : At 69 w (.agg #[.int .i64 11, .string tx, .int .i64 nu, .int .i64 po, .slice A k.len cap, .int .i64 tk, .string tn, .int .i64 rf, .int .i64 up]) (stOk nmv ⟨11, tx, nu, po, tk, tn, rf, up⟩ k)) : CB' 113 w (.agg #[.int .i64 11, .string tx, .int .i64 nu, .int .i64 po, .slice A k.len cap, .int .i64 tk, .string tn, .int .i64 rf, .int .i64 up]) (coOk nmv ⟨11, tx, nu, po, tk, tn, rf, up⟩ k) := by
  have HX : Hid (coOk nmv ⟨11, tx, nu, po, tk, tn, rf, up⟩ k = false) := Lib.hid (by
    have e : okT nmv ⟨11, tx, nu, po, tk, tn, rf, up⟩ k = false := hv
    unfold coOk
    rw [e, Bool.and_false])
  rw [hv] at hS
  obtain ⟨n, hn⟩ : ∃ n, k.len = n := ⟨_, rfl⟩
  rw [hn] at hS ⊢
  have HC := Lib.hid hS
  have HB0 : Hid (Below w.heap.size w (w.alloc (.cells #[.int .i64 11, .string tx, .int .i64 nu, .int .i64 po, .slice A n cap, .int .i64 tk, .string tn, .int .i64 rf, .int .i64 up] 26))) := Lib.hid (b1 w _)
  have HZ0 : Hid (w.heap.size < (w.alloc (.cells #[.int .i64 11, .string tx, .int .i64 nu, .int .i64 po, .slice A n cap, .int .i64 tk, .string tn, .int .i64 rf, .int .i64 up] 26)).heap.size) := Lib.hid (by simp)
  clear hv hn hS
  go_enter Tryz.func113, Tryz.ntmps113
  go_wp2_with fail
  refine (HC.out _ HB0.out).mono ?_
  rintro e V1 ⟨rfl, hb⟩
  have HB1 := Lib.hid (HB0.out.trans (hb.mono HB0.out.size))
  obtain ⟨hc1, hf1⟩ := bcell hb
  have hz1 : w.heap.size < V1.heap.size := by have := hb.size; have := HZ0.out; omega
  have HZ1 := Lib.hid hz1
  clear hb
  go_wp2
  go_ret
  exact ⟨ret_bool HX.out.symm, HB1.out⟩
set_option maxRecDepth 100000 in
set_option maxHeartbeats 4000000 in
theorem co_11y (nu po tk rf up : Int) (tn : ByteArray) (tx : ByteArray) (A : Option Addr) (cap : Nat) (k : Fo) (w : World) (hl : k.len = 1) (hv : stOk nmv ⟨11, tx, nu, po, tk, tn, rf, up⟩ k = true) (hk : Kids (Lt w.heap.size) w A k) (hS : At 69 w (.agg #[.int .i64 11, .string tx, .int .i64 nu, .int .i64 po, .slice A k.len cap, .int .i64 tk, .string tn, .int .i64 rf, .int .i64 up]) (stOk nmv ⟨11, tx, nu, po, tk, tn, rf, up⟩ k)) : CB' 113 w (.agg #[.int .i64 11, .string tx, .int .i64 nu, .int .i64 po, .slice A k.len cap, .int .i64 tk, .string tn, .int .i64 rf, .int .i64 up]) (coOk nmv ⟨11, tx, nu, po, tk, tn, rf, up⟩ k) := by
  obtain ⟨h0, k0, rfl⟩ := is1 hl
  obtain ⟨g, o, A0, c0, rfl, ⟨d0, d1, d2, d3, d4, d5, d6, d7, d8⟩, hk0, hg⟩ := kidv1 hk
  have HX : Hid (coOk nmv ⟨11, tx, nu, po, tk, tn, rf, up⟩ (.cons h0 k0 .nil) = (h0.kind == 33)) := Lib.hid (by
    have e : okT nmv ⟨11, tx, nu, po, tk, tn, rf, up⟩ (.cons h0 k0 .nil) = true := hv
    unfold coOk
    rw [e, Bool.and_true]
    show ((11 : Int) == 9 || ((11 : Int) == 16 || (((11 : Int) == 13 || (11 : Int) == 12 || (11 : Int) == 11) && h0.kind == 33))) = _
    simp)
  rw [hv] at hS
  have hl1 : (Fo.cons h0 k0 .nil).len = 1 := rfl
  rw [hl1] at hS ⊢
  have HC := Lib.hid hS
  have hgn : ¬ g = w.heap.size := by omega
  have hg1 : g < w.heap.size + 1 := by omega
  have HB0 : Hid (Below w.heap.size w (w.alloc (.cells #[.int .i64 11, .string tx, .int .i64 nu, .int .i64 po, .slice (some ⟨g, o, none⟩) 1 cap, .int .i64 tk, .string tn, .int .i64 rf, .int .i64 up] 26))) := Lib.hid (b1 w _)
  have HZ0 : Hid (w.heap.size < (w.alloc (.cells #[.int .i64 11, .string tx, .int .i64 nu, .int .i64 po, .slice (some ⟨g, o, none⟩) 1 cap, .int .i64 tk, .string tn, .int .i64 rf, .int .i64 up] 26)).heap.size) := Lib.hid (by simp)
  clear hv hl1 hS hl hk hk0
  go_enter Tryz.func113, Tryz.ntmps113
  go_wp2_with fail
  refine (HC.out _ HB0.out).mono ?_
  rintro e V1 ⟨rfl, hb⟩
  have HB1 := Lib.hid (HB0.out.trans (hb.mono HB0.out.size))
  obtain ⟨hc1, hf1⟩ := bcell hb
  have hz1 : w.heap.size < V1.heap.size := by have := hb.size; have := HZ0.out; omega
  have HZ1 := Lib.hid hz1
  clear hb
  go_wp2
  all_goals go_ret
  all_goals exact ⟨ret_bool (by rw [HX.out]; try simp_all), HB1.out⟩
set_option maxRecDepth 100000 in
set_option maxHeartbeats 4000000 in
theorem co_12n (nu po tk rf up : Int) (tn : ByteArray) (tx : ByteArray) (A : Option Addr) (cap : Nat) (k : Fo) (w : World) (hv : stOk nmv ⟨12, tx, nu, po, tk, tn, rf, up⟩ k = false) (hS : At 69 w (.agg #[.int .i64 12, .string tx, .int .i64 nu, .int .i64 po, .slice A k.len cap, .int .i64 tk, .string tn, .int .i64 rf, .int .i64 up]) (stOk nmv ⟨12, tx, nu, po, tk, tn, rf, up⟩ k)) : CB' 113 w (.agg #[.int .i64 12, .string tx, .int .i64 nu, .int .i64 po, .slice A k.len cap, .int .i64 tk, .string tn, .int .i64 rf, .int .i64 up]) (coOk nmv ⟨12, tx, nu, po, tk, tn, rf, up⟩ k) := by
  have HX : Hid (coOk nmv ⟨12, tx, nu, po, tk, tn, rf, up⟩ k = false) := Lib.hid (by
    have e : okT nmv ⟨12, tx, nu, po, tk, tn, rf, up⟩ k = false := hv
    unfold coOk
    rw [e, Bool.and_false])
  rw [hv] at hS
  obtain ⟨n, hn⟩ : ∃ n, k.len = n := ⟨_, rfl⟩
  rw [hn] at hS ⊢
  have HC := Lib.hid hS
  have HB0 : Hid (Below w.heap.size w (w.alloc (.cells #[.int .i64 12, .string tx, .int .i64 nu, .int .i64 po, .slice A n cap, .int .i64 tk, .string tn, .int .i64 rf, .int .i64 up] 26))) := Lib.hid (b1 w _)
  have HZ0 : Hid (w.heap.size < (w.alloc (.cells #[.int .i64 12, .string tx, .int .i64 nu, .int .i64 po, .slice A n cap, .int .i64 tk, .string tn, .int .i64 rf, .int .i64 up] 26)).heap.size) := Lib.hid (by simp)
  clear hv hn hS
  go_enter Tryz.func113, Tryz.ntmps113
  go_wp2_with fail
  refine (HC.out _ HB0.out).mono ?_
  rintro e V1 ⟨rfl, hb⟩
  have HB1 := Lib.hid (HB0.out.trans (hb.mono HB0.out.size))
  obtain ⟨hc1, hf1⟩ := bcell hb
  have hz1 : w.heap.size < V1.heap.size := by have := hb.size; have := HZ0.out; omega
  have HZ1 := Lib.hid hz1
  clear hb
  go_wp2
  go_ret
  exact ⟨ret_bool HX.out.symm, HB1.out⟩
set_option maxRecDepth 100000 in
set_option maxHeartbeats 4000000 in
theorem co_12y (nu po tk rf up : Int) (tn : ByteArray) (tx : ByteArray) (A : Option Addr) (cap : Nat) (k : Fo) (w : World) (hl : k.len = 2) (hv : stOk nmv ⟨12, tx, nu, po, tk, tn, rf, up⟩ k = true) (hk : Kids (Lt w.heap.size) w A k) (hS : At 69 w (.agg #[.int .i64 12, .string tx, .int .i64 nu, .int .i64 po, .slice A k.len cap, .int .i64 tk, .string tn, .int .i64 rf, .int .i64 up]) (stOk nmv ⟨12, tx, nu, po, tk, tn, rf, up⟩ k)) : CB' 113 w (.agg #[.int .i64 12, .string tx, .int .i64 nu, .int .i64 po, .slice A k.len cap, .int .i64 tk, .string tn, .int .i64 rf, .int .i64 up]) (coOk nmv ⟨12, tx, nu, po, tk, tn, rf, up⟩ k) := by
  obtain ⟨h0, k0, h1, k1, rfl⟩ := is2 hl
  obtain ⟨g, o, A0, c0, A1, c1, rfl, ⟨d0, d1, d2, d3, d4, d5, d6, d7, d8⟩, hk0, ⟨p0, p1, p2, p3, p4, p5, p6, p7, p8⟩, hk1, hg⟩ := kid2 hk
  have HX : Hid (coOk nmv ⟨12, tx, nu, po, tk, tn, rf, up⟩ (.cons h0 k0 (.cons h1 k1 .nil)) = (h1.kind == 33)) := Lib.hid (by
    have e : okT nmv ⟨12, tx, nu, po, tk, tn, rf, up⟩ (.cons h0 k0 (.cons h1 k1 .nil)) = true := hv
    unfold coOk
    rw [e, Bool.and_true]
    show ((12 : Int) == 9 || ((12 : Int) == 16 || (((12 : Int) == 13 || (12 : Int) == 12 || (12 : Int) == 11) && h1.kind == 33))) = _
    simp)
  rw [hv] at hS
  have hl1 : (Fo.cons h0 k0 (.cons h1 k1 .nil)).len = 2 := rfl
  rw [hl1] at hS ⊢
  have HC := Lib.hid hS
  have hgn : ¬ g = w.heap.size := by omega
  have hg1 : g < w.heap.size + 1 := by omega
  have HB0 : Hid (Below w.heap.size w (w.alloc (.cells #[.int .i64 12, .string tx, .int .i64 nu, .int .i64 po, .slice (some ⟨g, o, none⟩) 2 cap, .int .i64 tk, .string tn, .int .i64 rf, .int .i64 up] 26))) := Lib.hid (b1 w _)
  have HZ0 : Hid (w.heap.size < (w.alloc (.cells #[.int .i64 12, .string tx, .int .i64 nu, .int .i64 po, .slice (some ⟨g, o, none⟩) 2 cap, .int .i64 tk, .string tn, .int .i64 rf, .int .i64 up] 26)).heap.size) := Lib.hid (by simp)
  clear hv hl1 hS hl hk hk0 hk1
  go_enter Tryz.func113, Tryz.ntmps113
  go_wp2_with fail
  refine (HC.out _ HB0.out).mono ?_
  rintro e V1 ⟨rfl, hb⟩
  have HB1 := Lib.hid (HB0.out.trans (hb.mono HB0.out.size))
  obtain ⟨hc1, hf1⟩ := bcell hb
  have hz1 : w.heap.size < V1.heap.size := by have := hb.size; have := HZ0.out; omega
  have HZ1 := Lib.hid hz1
  clear hb
  go_wp2
  all_goals go_ret
  all_goals exact ⟨ret_bool (by rw [HX.out]; try simp_all), HB1.out⟩
set_option maxRecDepth 100000 in
set_option maxHeartbeats 4000000 in
theorem co_no (h : Hd) (A : Option Addr) (cap : Nat) (k : Fo) (w : World) (x16 : (h.kind == 16) = false) (x9 : (h.kind == 9) = false) (x13 : (h.kind == 13) = false) (x12 : (h.kind == 12) = false) (x11 : (h.kind == 11) = false) : CB' 113 w (nv h A k.len cap) (coOk nmv h k) := by
  have HX : Hid (coOk nmv h k = false) := Lib.hid (by unfold coOk commT; rw [x16, x9, x13, x12, x11]; rfl)
  obtain ⟨n, hn⟩ : ∃ n, k.len = n := ⟨_, rfl⟩
  rw [hn]
  clear hn
  go_enter Tryz.func113, Tryz.ntmps113
  go_wp2
  go_ret
  exact ⟨ret_bool HX.out.symm, b1 _ _⟩
theorem st_len1 {nu po tk rf up : Int} {tn tx : ByteArray} {k : Fo} {kd : Int} (hkd : kd = 13 ∨ kd = 11) (hv : stOk nmv ⟨kd, tx, nu, po, tk, tn, rf, up⟩ k = true) : k.len = 1 := by
  by_cases hl : k.len = 1
  · exact hl
  · exfalso
    rcases hkd with rfl | rfl
    · rw [stq_13, one1_len hl, Bool.and_false] at hv; cases hv
    · rw [stq_11, one1_len hl, Bool.and_false] at hv; cases hv
theorem st_len2 {nu po tk rf up : Int} {tn tx : ByteArray} {k : Fo} (hv : stOk nmv ⟨12, tx, nu, po, tk, tn, rf, up⟩ k = true) : k.len = 2 := by
  by_cases hl : k.len = 2
  · exact hl
  · exfalso
    rw [stq_12, two2_len hl, Bool.and_false] at hv; cases hv
theorem co_any (h : Hd) (k : Fo) (hS : CS h k) : CC h k := by
  intro A cap w hk
  obtain ⟨kd, tx, nu, po, tk, tn, rf, up⟩ := h
  by_cases e : kd = 16 ∨ kd = 9
  · exact co_16 kd e nu po tk rf up tn tx A cap k w (hS.at hk)
  · by_cases e3 : kd = 13
    · subst e3
      cases hv : stOk nmv ⟨13, tx, nu, po, tk, tn, rf, up⟩ k with
      | true => exact co_13y nu po tk rf up tn tx A cap k w (st_len1 (.inl rfl) hv) hv hk (hS.at hk)
      | false => exact co_13n nu po tk rf up tn tx A cap k w hv (hS.at hk)
    · by_cases e1 : kd = 11
      · subst e1
        cases hv : stOk nmv ⟨11, tx, nu, po, tk, tn, rf, up⟩ k with
        | true => exact co_11y nu po tk rf up tn tx A cap k w (st_len1 (.inr rfl) hv) hv hk (hS.at hk)
        | false => exact co_11n nu po tk rf up tn tx A cap k w hv (hS.at hk)
      · by_cases e2 : kd = 12
        · subst e2
          cases hv : stOk nmv ⟨12, tx, nu, po, tk, tn, rf, up⟩ k with
          | true => exact co_12y nu po tk rf up tn tx A cap k w (st_len2 hv) hv hk (hS.at hk)
          | false => exact co_12n nu po tk rf up tn tx A cap k w hv (hS.at hk)
        · have q : ¬ kd = 16 ∧ ¬ kd = 9 := ⟨fun h => e (.inl h), fun h => e (.inr h)⟩
          exact co_no _ A cap k w (by simpa using q.1) (by simpa using q.2) (by simpa using e3) (by simpa using e2) (by simpa using e1)
end Go.Proofs.YticbcnhbpbaocaaGreatDoor
