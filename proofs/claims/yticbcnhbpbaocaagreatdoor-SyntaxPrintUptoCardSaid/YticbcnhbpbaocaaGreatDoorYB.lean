/-
  The specification's printer: statements by kinds, with one child.
  The specification's printer: statements by kinds, with two children; if.
  The specification's printer: variables, conditions.
-/
import Derived.Test.YticbcnhbpbaocaaGreatDoorYA
set_option linter.all false
namespace Go.Proofs.YticbcnhbpbaocaaGreatDoor
open Go.RowKit T T.Fo
set_option linter.all false
set_option maxRecDepth 100000 in
set_option maxHeartbeats 8000000 in
theorem rs_11 {d : Int} (t : ByteArray) (nu p tk : Int) (tn : ByteArray) (r u : Int) (h0 : Hd) (k0 : Fo) (lt : t.size ≤ 20000) (s0 : Bs) (P0 : CX 75 d h0 k0 s0) (l0 : s0.length ≤ 1000000000000) : CX 104 d ⟨11, t, nu, p, tk, tn, r, u⟩ (.cons h0 k0 .nil) (t.data.toList ++ [32, 58, 61, 32] ++ s0) := by
  intro A cap w hk
  obtain ⟨g, o, A0, c0, rfl, D0, hk0, hg⟩ := kidv1 hk
  have HC0 := Lib.hid (P0.at (cap := c0) hk0)
  obtain ⟨x0, hx0⟩ : ∃ x, tx s0 = x := ⟨_, rfl⟩
  have HX0 : Hid (s0 = x0.data.toList) := Lib.hid (by rw [← hx0])
  rw [hx0] at HC0
  clear hx0
  obtain ⟨n0, hn0⟩ : ∃ n, k0.len = n := ⟨_, rfl⟩
  rw [hn0] at D0 HC0
  show RT 104 #[.agg #[.int .i64 11, .string t, .int .i64 nu, .int .i64 p, .slice (some ⟨g, o, none⟩) 1 cap, .int .i64 tk, .string tn, .int .i64 r, .int .i64 u], .int .i64 d] w _
  have hgn : ¬ g = w.heap.size := by omega
  have hg1 : g < w.heap.size + 1 := by omega
  have y0 : x0.size ≤ 1000000000000 := by have e := congrArg List.length HX0.out; have e2 : x0.data.toList.length = x0.size := rfl; omega
  have z0 : ¬ 9223372036854775807 < t.size + 4 := by omega
  have z1 : ¬ 9223372036854775807 < t.size + 4 + x0.size := by omega
  clear lt l0 y0
  have HB0 : Hid (Below w.heap.size w (w.alloc (xo ⟨11, t, nu, p, tk, tn, r, u⟩ (some ⟨g, o, none⟩) 1 cap))) := Lib.hid (b1 w _)
  have HS := Lib.hid (RS1.mk (xnb w ⟨11, t, nu, p, tk, tn, r, u⟩ (some ⟨g, o, none⟩) 1 cap) (x9 _ D0 hg) (b1 w (xo ⟨11, t, nu, p, tk, tn, r, u⟩ (some ⟨g, o, none⟩) 1 cap)))
  obtain ⟨d00, d01, d02, d03, d04, d05, d06, d07, d08⟩ := D0
  clear hk hk0 hn0 P0
  go_enter Tryz.func104, Tryz.ntmps104
  go_wp2_with fail
  go_region_held3 (fun w' => w'.cell? ⟨w.heap.size, 0, none⟩ = some (.int .i64 11) ∧ w'.cell? ⟨w.heap.size, 1, none⟩ = some (.string t) ∧ w'.cell? ⟨w.heap.size, 2, none⟩ = some (.int .i64 nu) ∧ w'.cell? ⟨w.heap.size, 3, none⟩ = some (.int .i64 p) ∧ w'.cell? ⟨w.heap.size, 4, none⟩ = some (.slice (some ⟨g, o, none⟩) 1 cap) ∧ w'.cell? ⟨w.heap.size, 5, none⟩ = some (.int .i64 tk) ∧ w'.cell? ⟨w.heap.size, 6, none⟩ = some (.string tn) ∧ w'.cell? ⟨w.heap.size, 7, none⟩ = some (.int .i64 r) ∧ w'.cell? ⟨w.heap.size, 8, none⟩ = some (.int .i64 u) ∧ w'.cell? ⟨g, o, none⟩ = some (.int .i64 h0.kind) ∧ w'.cell? ⟨g, o + 1, none⟩ = some (.string h0.text) ∧ w'.cell? ⟨g, o + 2, none⟩ = some (.int .i64 h0.num) ∧ w'.cell? ⟨g, o + 3, none⟩ = some (.int .i64 h0.pos) ∧ w'.cell? ⟨g, o + 4, none⟩ = some (.slice A0 n0 c0) ∧ w'.cell? ⟨g, o + 5, none⟩ = some (.int .i64 h0.tk) ∧ w'.cell? ⟨g, o + 6, none⟩ = some (.string h0.tn) ∧ w'.cell? ⟨g, o + 7, none⟩ = some (.int .i64 h0.ref) ∧ w'.cell? ⟨g, o + 8, none⟩ = some (.int .i64 h0.up) ∧ Below w.heap.size w w')
    (first | exact HS.out.start | exact RS1.keep (hq := ⟨11, t, nu, p, tk, tn, r, u⟩) (Aq := (some ⟨g, o, none⟩)) (nq := 1) (cq := cap) (by assumption) hb)
    (first | (go_at_call 75; (with_reducible refine (HC0.out _ ?_).mono ?_); (go_split_ands; assumption); rintro e w' ⟨rfl, hb⟩))
  all_goals
    have HBE : Hid (Below w.heap.size w w') := Lib.hid (by go_split_ands; assumption)
    go_wp2
    go_ret
    exact ⟨str_fin (by rw [HX0.out] <;> simp), HBE.out⟩
set_option maxRecDepth 100000 in
set_option maxHeartbeats 8000000 in
theorem rs_13 {d : Int} (t : ByteArray) (nu p tk : Int) (tn : ByteArray) (r u : Int) (h0 : Hd) (k0 : Fo) (lt : t.size ≤ 20000) (s0 : Bs) (P0 : CX 75 d h0 k0 s0) (l0 : s0.length ≤ 1000000000000) : CX 104 d ⟨13, t, nu, p, tk, tn, r, u⟩ (.cons h0 k0 .nil) (s0) := by
  intro A cap w hk
  obtain ⟨g, o, A0, c0, rfl, D0, hk0, hg⟩ := kidv1 hk
  have HC0 := Lib.hid (P0.at (cap := c0) hk0)
  obtain ⟨x0, hx0⟩ : ∃ x, tx s0 = x := ⟨_, rfl⟩
  have HX0 : Hid (s0 = x0.data.toList) := Lib.hid (by rw [← hx0])
  rw [hx0] at HC0
  clear hx0
  obtain ⟨n0, hn0⟩ : ∃ n, k0.len = n := ⟨_, rfl⟩
  rw [hn0] at D0 HC0
  show RT 104 #[.agg #[.int .i64 13, .string t, .int .i64 nu, .int .i64 p, .slice (some ⟨g, o, none⟩) 1 cap, .int .i64 tk, .string tn, .int .i64 r, .int .i64 u], .int .i64 d] w _
  have hgn : ¬ g = w.heap.size := by omega
  have hg1 : g < w.heap.size + 1 := by omega
  have y0 : x0.size ≤ 1000000000000 := by have e := congrArg List.length HX0.out; have e2 : x0.data.toList.length = x0.size := rfl; omega
  clear lt l0 y0
  have HB0 : Hid (Below w.heap.size w (w.alloc (xo ⟨13, t, nu, p, tk, tn, r, u⟩ (some ⟨g, o, none⟩) 1 cap))) := Lib.hid (b1 w _)
  obtain ⟨d00, d01, d02, d03, d04, d05, d06, d07, d08⟩ := D0
  clear hk hk0 hn0 P0
  go_enter Tryz.func104, Tryz.ntmps104
  go_wp2_with (first | (go_at_call 75; (with_reducible refine (HC0.out _ HB0.out).mono ?_); rintro e V ⟨rfl, hb⟩; have HB0 := Lib.hid (HB0.out.trans (hb.mono HB0.out.size)); clear hb))
  all_goals go_ret
  all_goals exact ⟨str_fin (by rw [HX0.out] <;> simp), HB0.out⟩
set_option maxRecDepth 100000 in
set_option maxHeartbeats 8000000 in
theorem rs_14 {d : Int} (t : ByteArray) (nu p tk : Int) (tn : ByteArray) (r u : Int) (h0 : Hd) (k0 : Fo) (lt : t.size ≤ 20000) (s0 : Bs) (P0 : CX 75 d h0 k0 s0) (l0 : s0.length ≤ 1000000000000) : CX 104 d ⟨14, t, nu, p, tk, tn, r, u⟩ (.cons h0 k0 .nil) ([103, 111, 32] ++ s0) := by
  intro A cap w hk
  obtain ⟨g, o, A0, c0, rfl, D0, hk0, hg⟩ := kidv1 hk
  have HC0 := Lib.hid (P0.at (cap := c0) hk0)
  obtain ⟨x0, hx0⟩ : ∃ x, tx s0 = x := ⟨_, rfl⟩
  have HX0 : Hid (s0 = x0.data.toList) := Lib.hid (by rw [← hx0])
  rw [hx0] at HC0
  clear hx0
  obtain ⟨n0, hn0⟩ : ∃ n, k0.len = n := ⟨_, rfl⟩
  rw [hn0] at D0 HC0
  show RT 104 #[.agg #[.int .i64 14, .string t, .int .i64 nu, .int .i64 p, .slice (some ⟨g, o, none⟩) 1 cap, .int .i64 tk, .string tn, .int .i64 r, .int .i64 u], .int .i64 d] w _
  have hgn : ¬ g = w.heap.size := by omega
  have hg1 : g < w.heap.size + 1 := by omega
  have y0 : x0.size ≤ 1000000000000 := by have e := congrArg List.length HX0.out; have e2 : x0.data.toList.length = x0.size := rfl; omega
  have z0 : ¬ 9223372036854775807 < 3 + x0.size := by omega
  clear lt l0 y0
  have HB0 : Hid (Below w.heap.size w (w.alloc (xo ⟨14, t, nu, p, tk, tn, r, u⟩ (some ⟨g, o, none⟩) 1 cap))) := Lib.hid (b1 w _)
  obtain ⟨d00, d01, d02, d03, d04, d05, d06, d07, d08⟩ := D0
  clear hk hk0 hn0 P0
  go_enter Tryz.func104, Tryz.ntmps104
  go_wp2_with (first | (go_at_call 75; (with_reducible refine (HC0.out _ HB0.out).mono ?_); rintro e V ⟨rfl, hb⟩; have HB0 := Lib.hid (HB0.out.trans (hb.mono HB0.out.size)); clear hb))
  all_goals go_ret
  all_goals exact ⟨str_fin (by rw [HX0.out] <;> simp), HB0.out⟩
set_option maxRecDepth 100000 in
set_option maxHeartbeats 8000000 in
theorem rs_15 {d : Int} (t : ByteArray) (nu p tk : Int) (tn : ByteArray) (r u : Int) (h0 : Hd) (k0 : Fo) (lt : t.size ≤ 20000) (s0 : Bs) (P0 : CX 75 d h0 k0 s0) (l0 : s0.length ≤ 1000000000000) : CX 104 d ⟨15, t, nu, p, tk, tn, r, u⟩ (.cons h0 k0 .nil) ([100, 101, 102, 101, 114, 32] ++ s0) := by
  intro A cap w hk
  obtain ⟨g, o, A0, c0, rfl, D0, hk0, hg⟩ := kidv1 hk
  have HC0 := Lib.hid (P0.at (cap := c0) hk0)
  obtain ⟨x0, hx0⟩ : ∃ x, tx s0 = x := ⟨_, rfl⟩
  have HX0 : Hid (s0 = x0.data.toList) := Lib.hid (by rw [← hx0])
  rw [hx0] at HC0
  clear hx0
  obtain ⟨n0, hn0⟩ : ∃ n, k0.len = n := ⟨_, rfl⟩
  rw [hn0] at D0 HC0
  show RT 104 #[.agg #[.int .i64 15, .string t, .int .i64 nu, .int .i64 p, .slice (some ⟨g, o, none⟩) 1 cap, .int .i64 tk, .string tn, .int .i64 r, .int .i64 u], .int .i64 d] w _
  have hgn : ¬ g = w.heap.size := by omega
  have hg1 : g < w.heap.size + 1 := by omega
  have y0 : x0.size ≤ 1000000000000 := by have e := congrArg List.length HX0.out; have e2 : x0.data.toList.length = x0.size := rfl; omega
  have z0 : ¬ 9223372036854775807 < 6 + x0.size := by omega
  clear lt l0 y0
  have HB0 : Hid (Below w.heap.size w (w.alloc (xo ⟨15, t, nu, p, tk, tn, r, u⟩ (some ⟨g, o, none⟩) 1 cap))) := Lib.hid (b1 w _)
  obtain ⟨d00, d01, d02, d03, d04, d05, d06, d07, d08⟩ := D0
  clear hk hk0 hn0 P0
  go_enter Tryz.func104, Tryz.ntmps104
  go_wp2_with (first | (go_at_call 75; (with_reducible refine (HC0.out _ HB0.out).mono ?_); rintro e V ⟨rfl, hb⟩; have HB0 := Lib.hid (HB0.out.trans (hb.mono HB0.out.size)); clear hb))
  all_goals go_ret
  all_goals exact ⟨str_fin (by rw [HX0.out] <;> simp), HB0.out⟩
set_option maxRecDepth 100000 in
set_option maxHeartbeats 8000000 in
theorem rs_17 {d : Int} (t : ByteArray) (nu p tk : Int) (tn : ByteArray) (r u : Int) (h0 : Hd) (k0 : Fo) (lt : t.size ≤ 20000) (s0 : Bs) (P0 : CX 75 d h0 k0 s0) (l0 : s0.length ≤ 1000000000000) : CX 104 d ⟨17, t, nu, p, tk, tn, r, u⟩ (.cons h0 k0 .nil) ([99, 108, 111, 115, 101, 40] ++ s0 ++ [41]) := by
  intro A cap w hk
  obtain ⟨g, o, A0, c0, rfl, D0, hk0, hg⟩ := kidv1 hk
  have HC0 := Lib.hid (P0.at (cap := c0) hk0)
  obtain ⟨x0, hx0⟩ : ∃ x, tx s0 = x := ⟨_, rfl⟩
  have HX0 : Hid (s0 = x0.data.toList) := Lib.hid (by rw [← hx0])
  rw [hx0] at HC0
  clear hx0
  obtain ⟨n0, hn0⟩ : ∃ n, k0.len = n := ⟨_, rfl⟩
  rw [hn0] at D0 HC0
  show RT 104 #[.agg #[.int .i64 17, .string t, .int .i64 nu, .int .i64 p, .slice (some ⟨g, o, none⟩) 1 cap, .int .i64 tk, .string tn, .int .i64 r, .int .i64 u], .int .i64 d] w _
  have hgn : ¬ g = w.heap.size := by omega
  have hg1 : g < w.heap.size + 1 := by omega
  have y0 : x0.size ≤ 1000000000000 := by have e := congrArg List.length HX0.out; have e2 : x0.data.toList.length = x0.size := rfl; omega
  have z0 : ¬ 9223372036854775807 < 6 + x0.size := by omega
  have z1 : ¬ 9223372036854775807 < 6 + x0.size + 1 := by omega
  clear lt l0 y0
  have HB0 : Hid (Below w.heap.size w (w.alloc (xo ⟨17, t, nu, p, tk, tn, r, u⟩ (some ⟨g, o, none⟩) 1 cap))) := Lib.hid (b1 w _)
  obtain ⟨d00, d01, d02, d03, d04, d05, d06, d07, d08⟩ := D0
  clear hk hk0 hn0 P0
  go_enter Tryz.func104, Tryz.ntmps104
  go_wp2_with (first | (go_at_call 75; (with_reducible refine (HC0.out _ HB0.out).mono ?_); rintro e V ⟨rfl, hb⟩; have HB0 := Lib.hid (HB0.out.trans (hb.mono HB0.out.size)); clear hb))
  all_goals go_ret
  all_goals exact ⟨str_fin (by rw [HX0.out] <;> simp), HB0.out⟩
set_option maxRecDepth 100000 in
set_option maxHeartbeats 8000000 in
theorem rs_21 {d : Int} (t : ByteArray) (nu p tk : Int) (tn : ByteArray) (r u : Int) (h0 : Hd) (k0 : Fo) (lt : t.size ≤ 20000) (s0 : Bs) (P0 : CX 75 d h0 k0 s0) (l0 : s0.length ≤ 1000000000000) : CX 104 d ⟨21, t, nu, p, tk, tn, r, u⟩ (.cons h0 k0 .nil) ([112, 114, 105, 110, 116, 40] ++ s0 ++ [41]) := by
  intro A cap w hk
  obtain ⟨g, o, A0, c0, rfl, D0, hk0, hg⟩ := kidv1 hk
  have HC0 := Lib.hid (P0.at (cap := c0) hk0)
  obtain ⟨x0, hx0⟩ : ∃ x, tx s0 = x := ⟨_, rfl⟩
  have HX0 : Hid (s0 = x0.data.toList) := Lib.hid (by rw [← hx0])
  rw [hx0] at HC0
  clear hx0
  obtain ⟨n0, hn0⟩ : ∃ n, k0.len = n := ⟨_, rfl⟩
  rw [hn0] at D0 HC0
  show RT 104 #[.agg #[.int .i64 21, .string t, .int .i64 nu, .int .i64 p, .slice (some ⟨g, o, none⟩) 1 cap, .int .i64 tk, .string tn, .int .i64 r, .int .i64 u], .int .i64 d] w _
  have hgn : ¬ g = w.heap.size := by omega
  have hg1 : g < w.heap.size + 1 := by omega
  have y0 : x0.size ≤ 1000000000000 := by have e := congrArg List.length HX0.out; have e2 : x0.data.toList.length = x0.size := rfl; omega
  have z0 : ¬ 9223372036854775807 < 6 + x0.size := by omega
  have z1 : ¬ 9223372036854775807 < 6 + x0.size + 1 := by omega
  clear lt l0 y0
  have HB0 : Hid (Below w.heap.size w (w.alloc (xo ⟨21, t, nu, p, tk, tn, r, u⟩ (some ⟨g, o, none⟩) 1 cap))) := Lib.hid (b1 w _)
  obtain ⟨d00, d01, d02, d03, d04, d05, d06, d07, d08⟩ := D0
  clear hk hk0 hn0 P0
  go_enter Tryz.func104, Tryz.ntmps104
  go_wp2_with (first | (go_at_call 75; (with_reducible refine (HC0.out _ HB0.out).mono ?_); rintro e V ⟨rfl, hb⟩; have HB0 := Lib.hid (HB0.out.trans (hb.mono HB0.out.size)); clear hb))
  all_goals go_ret
  all_goals exact ⟨str_fin (by rw [HX0.out] <;> simp), HB0.out⟩
set_option maxRecDepth 100000 in
set_option maxHeartbeats 8000000 in
theorem rs_20 {d : Int} (t : ByteArray) (nu p tk : Int) (tn : ByteArray) (r u : Int) (h0 : Hd) (k0 : Fo) (lt : t.size ≤ 20000) (s0 : Bs) (P0 : CX 75 d h0 k0 s0) (l0 : s0.length ≤ 1000000000000) : CX 104 d ⟨20, t, nu, p, tk, tn, r, u⟩ (.cons h0 k0 .nil) ([114, 101, 116, 117, 114, 110] ++ ([32] ++ s0)) := by
  intro A cap w hk
  obtain ⟨g, o, A0, c0, rfl, D0, hk0, hg⟩ := kidv1 hk
  have HC0 := Lib.hid (P0.at (cap := c0) hk0)
  obtain ⟨x0, hx0⟩ : ∃ x, tx s0 = x := ⟨_, rfl⟩
  have HX0 : Hid (s0 = x0.data.toList) := Lib.hid (by rw [← hx0])
  rw [hx0] at HC0
  clear hx0
  obtain ⟨n0, hn0⟩ : ∃ n, k0.len = n := ⟨_, rfl⟩
  rw [hn0] at D0 HC0
  show RT 104 #[.agg #[.int .i64 20, .string t, .int .i64 nu, .int .i64 p, .slice (some ⟨g, o, none⟩) 1 cap, .int .i64 tk, .string tn, .int .i64 r, .int .i64 u], .int .i64 d] w _
  have hgn : ¬ g = w.heap.size := by omega
  have hg1 : g < w.heap.size + 1 := by omega
  have y0 : x0.size ≤ 1000000000000 := by have e := congrArg List.length HX0.out; have e2 : x0.data.toList.length = x0.size := rfl; omega
  have z0 : ¬ 9223372036854775807 < 7 + x0.size := by omega
  clear lt l0 y0
  have HB0 : Hid (Below w.heap.size w (w.alloc (xo ⟨20, t, nu, p, tk, tn, r, u⟩ (some ⟨g, o, none⟩) 1 cap))) := Lib.hid (b1 w _)
  obtain ⟨d00, d01, d02, d03, d04, d05, d06, d07, d08⟩ := D0
  clear hk hk0 hn0 P0
  go_enter Tryz.func104, Tryz.ntmps104
  go_wp2_with (first | (go_at_call 75; (with_reducible refine (HC0.out _ HB0.out).mono ?_); rintro e V ⟨rfl, hb⟩; have HB0 := Lib.hid (HB0.out.trans (hb.mono HB0.out.size)); clear hb))
  all_goals go_ret
  all_goals exact ⟨str_fin (by rw [HX0.out] <;> simp), HB0.out⟩
set_option maxRecDepth 100000 in
set_option maxHeartbeats 8000000 in
theorem rs_20n {d : Int} (t : ByteArray) (nu p tk : Int) (tn : ByteArray) (r u : Int)  (lt : t.size ≤ 20000)  : CX 104 d ⟨20, t, nu, p, tk, tn, r, u⟩ .nil ([114, 101, 116, 117, 114, 110]) := by
  intro A cap w hk
  show RT 104 #[.agg #[.int .i64 20, .string t, .int .i64 nu, .int .i64 p, .slice A 0 cap, .int .i64 tk, .string tn, .int .i64 r, .int .i64 u], .int .i64 d] w _
  clear lt
  have HB0 : Hid (Below w.heap.size w (w.alloc (xo ⟨20, t, nu, p, tk, tn, r, u⟩ A 0 cap))) := Lib.hid (b1 w _)
  clear hk
  go_enter Tryz.func104, Tryz.ntmps104
  go_wp2
  all_goals go_ret
  all_goals exact ⟨str_fin (by simp), HB0.out⟩
set_option maxRecDepth 100000 in
set_option maxHeartbeats 8000000 in
theorem rs_6 {d : Int} (t : ByteArray) (nu p tk : Int) (tn : ByteArray) (r u : Int) (k : Fo) (s : Bs) (P : CX 53 d ⟨6, t, nu, p, tk, tn, r, u⟩ k s) : CX 104 d ⟨6, t, nu, p, tk, tn, r, u⟩ k s := by
  intro A cap w hk
  have HC := Lib.hid (P.at (cap := cap) hk)
  obtain ⟨x, hx⟩ : ∃ x, tx s = x := ⟨_, rfl⟩
  have HX : Hid (s = x.data.toList) := Lib.hid (by rw [← hx])
  rw [hx] at HC
  obtain ⟨n, hn⟩ : ∃ n, k.len = n := ⟨_, rfl⟩
  rw [hn] at HC ⊢
  have HC2 : Hid (RA 53 #[.agg #[.int .i64 6, .string t, .int .i64 nu, .int .i64 p, .slice A n cap, .int .i64 tk, .string tn, .int .i64 r, .int .i64 u], .int .i64 d] w x) := Lib.hid HC.out
  clear HC
  show RT 104 #[.agg #[.int .i64 6, .string t, .int .i64 nu, .int .i64 p, .slice A n cap, .int .i64 tk, .string tn, .int .i64 r, .int .i64 u], .int .i64 d] w _
  have HB0 : Hid (Below w.heap.size w (w.alloc (xo ⟨6, t, nu, p, tk, tn, r, u⟩ A n cap))) := Lib.hid (b1 w _)
  clear hk P hx hn
  go_enter Tryz.func104, Tryz.ntmps104
  go_wp2_with (go_at_call 53; (with_reducible refine (HC2.out _ HB0.out).mono ?_); rintro e V ⟨rfl, hb⟩; have HB0 := Lib.hid (HB0.out.trans (hb.mono HB0.out.size)); clear hb)
  go_ret
  exact ⟨str_fin HX.out.symm, HB0.out⟩
set_option maxRecDepth 100000 in
set_option maxHeartbeats 8000000 in
theorem rs_10 {d : Int} (t : ByteArray) (nu p tk : Int) (tn : ByteArray) (r u : Int) (k : Fo) (s : Bs) (P : CX 55 d ⟨10, t, nu, p, tk, tn, r, u⟩ k s) : CX 104 d ⟨10, t, nu, p, tk, tn, r, u⟩ k s := by
  intro A cap w hk
  have HC := Lib.hid (P.at (cap := cap) hk)
  obtain ⟨x, hx⟩ : ∃ x, tx s = x := ⟨_, rfl⟩
  have HX : Hid (s = x.data.toList) := Lib.hid (by rw [← hx])
  rw [hx] at HC
  obtain ⟨n, hn⟩ : ∃ n, k.len = n := ⟨_, rfl⟩
  rw [hn] at HC ⊢
  have HC2 : Hid (RA 55 #[.agg #[.int .i64 10, .string t, .int .i64 nu, .int .i64 p, .slice A n cap, .int .i64 tk, .string tn, .int .i64 r, .int .i64 u], .int .i64 d] w x) := Lib.hid HC.out
  clear HC
  show RT 104 #[.agg #[.int .i64 10, .string t, .int .i64 nu, .int .i64 p, .slice A n cap, .int .i64 tk, .string tn, .int .i64 r, .int .i64 u], .int .i64 d] w _
  have HB0 : Hid (Below w.heap.size w (w.alloc (xo ⟨10, t, nu, p, tk, tn, r, u⟩ A n cap))) := Lib.hid (b1 w _)
  clear hk P hx hn
  go_enter Tryz.func104, Tryz.ntmps104
  go_wp2_with (go_at_call 55; (with_reducible refine (HC2.out _ HB0.out).mono ?_); rintro e V ⟨rfl, hb⟩; have HB0 := Lib.hid (HB0.out.trans (hb.mono HB0.out.size)); clear hb)
  go_ret
  exact ⟨str_fin HX.out.symm, HB0.out⟩
set_option maxRecDepth 100000 in
set_option maxHeartbeats 8000000 in
theorem rs_18 {d : Int} (t : ByteArray) (nu p tk : Int) (tn : ByteArray) (r u : Int) (k : Fo) (s : Bs) (P : CX 118 d ⟨18, t, nu, p, tk, tn, r, u⟩ k s) : CX 104 d ⟨18, t, nu, p, tk, tn, r, u⟩ k s := by
  intro A cap w hk
  have HC := Lib.hid (P.at (cap := cap) hk)
  obtain ⟨x, hx⟩ : ∃ x, tx s = x := ⟨_, rfl⟩
  have HX : Hid (s = x.data.toList) := Lib.hid (by rw [← hx])
  rw [hx] at HC
  obtain ⟨n, hn⟩ : ∃ n, k.len = n := ⟨_, rfl⟩
  rw [hn] at HC ⊢
  have HC2 : Hid (RA 118 #[.agg #[.int .i64 18, .string t, .int .i64 nu, .int .i64 p, .slice A n cap, .int .i64 tk, .string tn, .int .i64 r, .int .i64 u], .int .i64 d] w x) := Lib.hid HC.out
  clear HC
  show RT 104 #[.agg #[.int .i64 18, .string t, .int .i64 nu, .int .i64 p, .slice A n cap, .int .i64 tk, .string tn, .int .i64 r, .int .i64 u], .int .i64 d] w _
  have HB0 : Hid (Below w.heap.size w (w.alloc (xo ⟨18, t, nu, p, tk, tn, r, u⟩ A n cap))) := Lib.hid (b1 w _)
  clear hk P hx hn
  go_enter Tryz.func104, Tryz.ntmps104
  go_wp2_with (go_at_call 118; (with_reducible refine (HC2.out _ HB0.out).mono ?_); rintro e V ⟨rfl, hb⟩; have HB0 := Lib.hid (HB0.out.trans (hb.mono HB0.out.size)); clear hb)
  go_ret
  exact ⟨str_fin HX.out.symm, HB0.out⟩
set_option maxRecDepth 100000 in
set_option maxHeartbeats 8000000 in
theorem rs_22 {d : Int} (t : ByteArray) (nu p tk : Int) (tn : ByteArray) (r u : Int) (k : Fo) (s : Bs) (P : CX 119 d ⟨22, t, nu, p, tk, tn, r, u⟩ k s) : CX 104 d ⟨22, t, nu, p, tk, tn, r, u⟩ k s := by
  intro A cap w hk
  have HC := Lib.hid (P.at (cap := cap) hk)
  obtain ⟨x, hx⟩ : ∃ x, tx s = x := ⟨_, rfl⟩
  have HX : Hid (s = x.data.toList) := Lib.hid (by rw [← hx])
  rw [hx] at HC
  obtain ⟨n, hn⟩ : ∃ n, k.len = n := ⟨_, rfl⟩
  rw [hn] at HC ⊢
  have HC2 : Hid (RA 119 #[.agg #[.int .i64 22, .string t, .int .i64 nu, .int .i64 p, .slice A n cap, .int .i64 tk, .string tn, .int .i64 r, .int .i64 u], .int .i64 d] w x) := Lib.hid HC.out
  clear HC
  show RT 104 #[.agg #[.int .i64 22, .string t, .int .i64 nu, .int .i64 p, .slice A n cap, .int .i64 tk, .string tn, .int .i64 r, .int .i64 u], .int .i64 d] w _
  have HB0 : Hid (Below w.heap.size w (w.alloc (xo ⟨22, t, nu, p, tk, tn, r, u⟩ A n cap))) := Lib.hid (b1 w _)
  clear hk P hx hn
  go_enter Tryz.func104, Tryz.ntmps104
  go_wp2_with (go_at_call 119; (with_reducible refine (HC2.out _ HB0.out).mono ?_); rintro e V ⟨rfl, hb⟩; have HB0 := Lib.hid (HB0.out.trans (hb.mono HB0.out.size)); clear hb)
  go_ret
  exact ⟨str_fin HX.out.symm, HB0.out⟩
end Go.Proofs.YticbcnhbpbaocaaGreatDoor

set_option linter.all false
namespace Go.Proofs.YticbcnhbpbaocaaGreatDoor
open Go.RowKit T T.Fo
set_option linter.all false
set_option maxRecDepth 100000 in
set_option maxHeartbeats 8000000 in
theorem rs_12 {d : Int} (t : ByteArray) (nu p tk : Int) (tn : ByteArray) (r u : Int) (h0 : Hd) (k0 : Fo) (h1 : Hd) (k1 : Fo) (lt : t.size ≤ 20000) (s0 : Bs) (P0 : CX 75 d h0 k0 s0) (l0 : s0.length ≤ 1000000000000) (s1 : Bs) (P1 : CX 75 d h1 k1 s1) (l1 : s1.length ≤ 1000000000000) : CX 104 d ⟨12, t, nu, p, tk, tn, r, u⟩ (.cons h0 k0 (.cons h1 k1 .nil)) (s0 ++ [32, 61, 32] ++ s1) := by
  intro A cap w hk
  obtain ⟨g, o, A0, c0, A1, c1, rfl, D0, hk0, D1, hk1, hg⟩ := kid2 hk
  have HC0 := Lib.hid (P0.at (cap := c0) hk0)
  obtain ⟨x0, hx0⟩ : ∃ x, tx s0 = x := ⟨_, rfl⟩
  have HX0 : Hid (s0 = x0.data.toList) := Lib.hid (by rw [← hx0])
  rw [hx0] at HC0
  clear hx0
  have HC1 := Lib.hid (P1.at (cap := c1) hk1)
  obtain ⟨x1, hx1⟩ : ∃ x, tx s1 = x := ⟨_, rfl⟩
  have HX1 : Hid (s1 = x1.data.toList) := Lib.hid (by rw [← hx1])
  rw [hx1] at HC1
  clear hx1
  obtain ⟨n0, hn0⟩ : ∃ n, k0.len = n := ⟨_, rfl⟩
  rw [hn0] at D0 HC0
  obtain ⟨n1, hn1⟩ : ∃ n, k1.len = n := ⟨_, rfl⟩
  rw [hn1] at D1 HC1
  show RT 104 #[.agg #[.int .i64 12, .string t, .int .i64 nu, .int .i64 p, .slice (some ⟨g, o, none⟩) 2 cap, .int .i64 tk, .string tn, .int .i64 r, .int .i64 u], .int .i64 d] w _
  have hgn : ¬ g = w.heap.size := by omega
  have hg1 : g < w.heap.size + 1 := by omega
  have y0 : x0.size ≤ 1000000000000 := by have e := congrArg List.length HX0.out; have e2 : x0.data.toList.length = x0.size := rfl; omega
  have y1 : x1.size ≤ 1000000000000 := by have e := congrArg List.length HX1.out; have e2 : x1.data.toList.length = x1.size := rfl; omega
  have z0 : ¬ 9223372036854775807 < x0.size + 3 := by omega
  have z1 : ¬ 9223372036854775807 < x0.size + 3 + x1.size := by omega
  clear lt l0 y0 l1 y1
  have HB0 : Hid (Below w.heap.size w (w.alloc (xo ⟨12, t, nu, p, tk, tn, r, u⟩ (some ⟨g, o, none⟩) 2 cap))) := Lib.hid (b1 w _)
  have HS := Lib.hid (RS2.mk (xnb w ⟨12, t, nu, p, tk, tn, r, u⟩ (some ⟨g, o, none⟩) 2 cap) (x9 _ D0 hg) (x9 _ D1 hg) (b1 w (xo ⟨12, t, nu, p, tk, tn, r, u⟩ (some ⟨g, o, none⟩) 2 cap)))
  obtain ⟨d00, d01, d02, d03, d04, d05, d06, d07, d08⟩ := D0
  obtain ⟨d10, d11, d12, d13, d14, d15, d16, d17, d18⟩ := D1
  clear hk hk0 hk1 hn0 hn1 P0 P1
  go_enter Tryz.func104, Tryz.ntmps104
  go_wp2_with fail
  go_region_held3 (fun w' => w'.cell? ⟨w.heap.size, 0, none⟩ = some (.int .i64 12) ∧ w'.cell? ⟨w.heap.size, 1, none⟩ = some (.string t) ∧ w'.cell? ⟨w.heap.size, 2, none⟩ = some (.int .i64 nu) ∧ w'.cell? ⟨w.heap.size, 3, none⟩ = some (.int .i64 p) ∧ w'.cell? ⟨w.heap.size, 4, none⟩ = some (.slice (some ⟨g, o, none⟩) 2 cap) ∧ w'.cell? ⟨w.heap.size, 5, none⟩ = some (.int .i64 tk) ∧ w'.cell? ⟨w.heap.size, 6, none⟩ = some (.string tn) ∧ w'.cell? ⟨w.heap.size, 7, none⟩ = some (.int .i64 r) ∧ w'.cell? ⟨w.heap.size, 8, none⟩ = some (.int .i64 u) ∧ w'.cell? ⟨g, o, none⟩ = some (.int .i64 h0.kind) ∧ w'.cell? ⟨g, o + 1, none⟩ = some (.string h0.text) ∧ w'.cell? ⟨g, o + 2, none⟩ = some (.int .i64 h0.num) ∧ w'.cell? ⟨g, o + 3, none⟩ = some (.int .i64 h0.pos) ∧ w'.cell? ⟨g, o + 4, none⟩ = some (.slice A0 n0 c0) ∧ w'.cell? ⟨g, o + 5, none⟩ = some (.int .i64 h0.tk) ∧ w'.cell? ⟨g, o + 6, none⟩ = some (.string h0.tn) ∧ w'.cell? ⟨g, o + 7, none⟩ = some (.int .i64 h0.ref) ∧ w'.cell? ⟨g, o + 8, none⟩ = some (.int .i64 h0.up) ∧ w'.cell? ⟨g, o + 9, none⟩ = some (.int .i64 h1.kind) ∧ w'.cell? ⟨g, o + 9 + 1, none⟩ = some (.string h1.text) ∧ w'.cell? ⟨g, o + 9 + 2, none⟩ = some (.int .i64 h1.num) ∧ w'.cell? ⟨g, o + 9 + 3, none⟩ = some (.int .i64 h1.pos) ∧ w'.cell? ⟨g, o + 9 + 4, none⟩ = some (.slice A1 n1 c1) ∧ w'.cell? ⟨g, o + 9 + 5, none⟩ = some (.int .i64 h1.tk) ∧ w'.cell? ⟨g, o + 9 + 6, none⟩ = some (.string h1.tn) ∧ w'.cell? ⟨g, o + 9 + 7, none⟩ = some (.int .i64 h1.ref) ∧ w'.cell? ⟨g, o + 9 + 8, none⟩ = some (.int .i64 h1.up) ∧ Below w.heap.size w w')
    (first | exact HS.out.start | exact RS2.keep (hq := ⟨12, t, nu, p, tk, tn, r, u⟩) (Aq := (some ⟨g, o, none⟩)) (nq := 2) (cq := cap) (by assumption) hb)
    (first | (go_at_call 75; (with_reducible refine (HC0.out _ ?_).mono ?_); (go_split_ands; assumption); rintro e w' ⟨rfl, hb⟩) | (go_at_call 75; (with_reducible refine (HC1.out _ ?_).mono ?_); (go_split_ands; assumption); rintro e w' ⟨rfl, hb⟩))
  all_goals
    have HBE : Hid (Below w.heap.size w w') := Lib.hid (by go_split_ands; assumption)
    go_wp2
    go_ret
    exact ⟨str_fin (by rw [HX0.out, HX1.out] <;> simp), HBE.out⟩
set_option maxRecDepth 100000 in
set_option maxHeartbeats 8000000 in
theorem rs_16 {d : Int} (t : ByteArray) (nu p tk : Int) (tn : ByteArray) (r u : Int) (h0 : Hd) (k0 : Fo) (h1 : Hd) (k1 : Fo) (lt : t.size ≤ 20000) (s0 : Bs) (P0 : CX 75 d h0 k0 s0) (l0 : s0.length ≤ 1000000000000) (s1 : Bs) (P1 : CX 75 d h1 k1 s1) (l1 : s1.length ≤ 1000000000000) : CX 104 d ⟨16, t, nu, p, tk, tn, r, u⟩ (.cons h0 k0 (.cons h1 k1 .nil)) (s0 ++ [32, 60, 45, 32] ++ s1) := by
  intro A cap w hk
  obtain ⟨g, o, A0, c0, A1, c1, rfl, D0, hk0, D1, hk1, hg⟩ := kid2 hk
  have HC0 := Lib.hid (P0.at (cap := c0) hk0)
  obtain ⟨x0, hx0⟩ : ∃ x, tx s0 = x := ⟨_, rfl⟩
  have HX0 : Hid (s0 = x0.data.toList) := Lib.hid (by rw [← hx0])
  rw [hx0] at HC0
  clear hx0
  have HC1 := Lib.hid (P1.at (cap := c1) hk1)
  obtain ⟨x1, hx1⟩ : ∃ x, tx s1 = x := ⟨_, rfl⟩
  have HX1 : Hid (s1 = x1.data.toList) := Lib.hid (by rw [← hx1])
  rw [hx1] at HC1
  clear hx1
  obtain ⟨n0, hn0⟩ : ∃ n, k0.len = n := ⟨_, rfl⟩
  rw [hn0] at D0 HC0
  obtain ⟨n1, hn1⟩ : ∃ n, k1.len = n := ⟨_, rfl⟩
  rw [hn1] at D1 HC1
  show RT 104 #[.agg #[.int .i64 16, .string t, .int .i64 nu, .int .i64 p, .slice (some ⟨g, o, none⟩) 2 cap, .int .i64 tk, .string tn, .int .i64 r, .int .i64 u], .int .i64 d] w _
  have hgn : ¬ g = w.heap.size := by omega
  have hg1 : g < w.heap.size + 1 := by omega
  have y0 : x0.size ≤ 1000000000000 := by have e := congrArg List.length HX0.out; have e2 : x0.data.toList.length = x0.size := rfl; omega
  have y1 : x1.size ≤ 1000000000000 := by have e := congrArg List.length HX1.out; have e2 : x1.data.toList.length = x1.size := rfl; omega
  have z0 : ¬ 9223372036854775807 < x0.size + 4 := by omega
  have z1 : ¬ 9223372036854775807 < x0.size + 4 + x1.size := by omega
  clear lt l0 y0 l1 y1
  have HB0 : Hid (Below w.heap.size w (w.alloc (xo ⟨16, t, nu, p, tk, tn, r, u⟩ (some ⟨g, o, none⟩) 2 cap))) := Lib.hid (b1 w _)
  have HS := Lib.hid (RS2.mk (xnb w ⟨16, t, nu, p, tk, tn, r, u⟩ (some ⟨g, o, none⟩) 2 cap) (x9 _ D0 hg) (x9 _ D1 hg) (b1 w (xo ⟨16, t, nu, p, tk, tn, r, u⟩ (some ⟨g, o, none⟩) 2 cap)))
  obtain ⟨d00, d01, d02, d03, d04, d05, d06, d07, d08⟩ := D0
  obtain ⟨d10, d11, d12, d13, d14, d15, d16, d17, d18⟩ := D1
  clear hk hk0 hk1 hn0 hn1 P0 P1
  go_enter Tryz.func104, Tryz.ntmps104
  go_wp2_with fail
  go_region_held3 (fun w' => w'.cell? ⟨w.heap.size, 0, none⟩ = some (.int .i64 16) ∧ w'.cell? ⟨w.heap.size, 1, none⟩ = some (.string t) ∧ w'.cell? ⟨w.heap.size, 2, none⟩ = some (.int .i64 nu) ∧ w'.cell? ⟨w.heap.size, 3, none⟩ = some (.int .i64 p) ∧ w'.cell? ⟨w.heap.size, 4, none⟩ = some (.slice (some ⟨g, o, none⟩) 2 cap) ∧ w'.cell? ⟨w.heap.size, 5, none⟩ = some (.int .i64 tk) ∧ w'.cell? ⟨w.heap.size, 6, none⟩ = some (.string tn) ∧ w'.cell? ⟨w.heap.size, 7, none⟩ = some (.int .i64 r) ∧ w'.cell? ⟨w.heap.size, 8, none⟩ = some (.int .i64 u) ∧ w'.cell? ⟨g, o, none⟩ = some (.int .i64 h0.kind) ∧ w'.cell? ⟨g, o + 1, none⟩ = some (.string h0.text) ∧ w'.cell? ⟨g, o + 2, none⟩ = some (.int .i64 h0.num) ∧ w'.cell? ⟨g, o + 3, none⟩ = some (.int .i64 h0.pos) ∧ w'.cell? ⟨g, o + 4, none⟩ = some (.slice A0 n0 c0) ∧ w'.cell? ⟨g, o + 5, none⟩ = some (.int .i64 h0.tk) ∧ w'.cell? ⟨g, o + 6, none⟩ = some (.string h0.tn) ∧ w'.cell? ⟨g, o + 7, none⟩ = some (.int .i64 h0.ref) ∧ w'.cell? ⟨g, o + 8, none⟩ = some (.int .i64 h0.up) ∧ w'.cell? ⟨g, o + 9, none⟩ = some (.int .i64 h1.kind) ∧ w'.cell? ⟨g, o + 9 + 1, none⟩ = some (.string h1.text) ∧ w'.cell? ⟨g, o + 9 + 2, none⟩ = some (.int .i64 h1.num) ∧ w'.cell? ⟨g, o + 9 + 3, none⟩ = some (.int .i64 h1.pos) ∧ w'.cell? ⟨g, o + 9 + 4, none⟩ = some (.slice A1 n1 c1) ∧ w'.cell? ⟨g, o + 9 + 5, none⟩ = some (.int .i64 h1.tk) ∧ w'.cell? ⟨g, o + 9 + 6, none⟩ = some (.string h1.tn) ∧ w'.cell? ⟨g, o + 9 + 7, none⟩ = some (.int .i64 h1.ref) ∧ w'.cell? ⟨g, o + 9 + 8, none⟩ = some (.int .i64 h1.up) ∧ Below w.heap.size w w')
    (first | exact HS.out.start | exact RS2.keep (hq := ⟨16, t, nu, p, tk, tn, r, u⟩) (Aq := (some ⟨g, o, none⟩)) (nq := 2) (cq := cap) (by assumption) hb)
    (first | (go_at_call 75; (with_reducible refine (HC0.out _ ?_).mono ?_); (go_split_ands; assumption); rintro e w' ⟨rfl, hb⟩) | (go_at_call 75; (with_reducible refine (HC1.out _ ?_).mono ?_); (go_split_ands; assumption); rintro e w' ⟨rfl, hb⟩))
  all_goals
    have HBE : Hid (Below w.heap.size w w') := Lib.hid (by go_split_ands; assumption)
    go_wp2
    go_ret
    exact ⟨str_fin (by rw [HX0.out, HX1.out] <;> simp), HBE.out⟩
set_option maxRecDepth 100000 in
set_option maxHeartbeats 8000000 in
theorem rs_19y {d : Int} (t : ByteArray) (nu p tk : Int) (tn : ByteArray) (r u : Int) (h0 : Hd) (k0 : Fo) (h1 : Hd) (k1 : Fo) (lt : t.size ≤ 20000) (s0 : Bs) (P0 : CX 75 d h0 k0 s0) (l0 : s0.length ≤ 1000000000000) (s1 : Bs) (P1 : CX 55 d h1 k1 s1) (l1 : s1.length ≤ 1000000000000) (h9 : (h0.kind == 9) = false) : CX 104 d ⟨19, t, nu, p, tk, tn, r, u⟩ (.cons h0 k0 (.cons h1 k1 .nil)) ([102, 111, 114, 32] ++ s0 ++ [32] ++ s1) := by
  intro A cap w hk
  obtain ⟨g, o, A0, c0, A1, c1, rfl, D0, hk0, D1, hk1, hg⟩ := kid2 hk
  have HC0 := Lib.hid (P0.at (cap := c0) hk0)
  obtain ⟨x0, hx0⟩ : ∃ x, tx s0 = x := ⟨_, rfl⟩
  have HX0 : Hid (s0 = x0.data.toList) := Lib.hid (by rw [← hx0])
  rw [hx0] at HC0
  clear hx0
  have HC1 := Lib.hid (P1.at (cap := c1) hk1)
  obtain ⟨x1, hx1⟩ : ∃ x, tx s1 = x := ⟨_, rfl⟩
  have HX1 : Hid (s1 = x1.data.toList) := Lib.hid (by rw [← hx1])
  rw [hx1] at HC1
  clear hx1
  obtain ⟨n0, hn0⟩ : ∃ n, k0.len = n := ⟨_, rfl⟩
  rw [hn0] at D0 HC0
  obtain ⟨n1, hn1⟩ : ∃ n, k1.len = n := ⟨_, rfl⟩
  rw [hn1] at D1 HC1
  show RT 104 #[.agg #[.int .i64 19, .string t, .int .i64 nu, .int .i64 p, .slice (some ⟨g, o, none⟩) 2 cap, .int .i64 tk, .string tn, .int .i64 r, .int .i64 u], .int .i64 d] w _
  have hgn : ¬ g = w.heap.size := by omega
  have hg1 : g < w.heap.size + 1 := by omega
  have y0 : x0.size ≤ 1000000000000 := by have e := congrArg List.length HX0.out; have e2 : x0.data.toList.length = x0.size := rfl; omega
  have y1 : x1.size ≤ 1000000000000 := by have e := congrArg List.length HX1.out; have e2 : x1.data.toList.length = x1.size := rfl; omega
  have z0 : ¬ 9223372036854775807 < 4 + x0.size := by omega
  have z1 : ¬ 9223372036854775807 < 4 + x0.size + 1 := by omega
  have z2 : ¬ 9223372036854775807 < 4 + x0.size + 1 + x1.size := by omega
  clear lt l0 y0 l1 y1
  have HB0 : Hid (Below w.heap.size w (w.alloc (xo ⟨19, t, nu, p, tk, tn, r, u⟩ (some ⟨g, o, none⟩) 2 cap))) := Lib.hid (b1 w _)
  have HS := Lib.hid (RS2.mk (xnb w ⟨19, t, nu, p, tk, tn, r, u⟩ (some ⟨g, o, none⟩) 2 cap) (x9 _ D0 hg) (x9 _ D1 hg) (b1 w (xo ⟨19, t, nu, p, tk, tn, r, u⟩ (some ⟨g, o, none⟩) 2 cap)))
  obtain ⟨d00, d01, d02, d03, d04, d05, d06, d07, d08⟩ := D0
  obtain ⟨d10, d11, d12, d13, d14, d15, d16, d17, d18⟩ := D1
  clear hk hk0 hk1 hn0 hn1 P0 P1
  go_enter Tryz.func104, Tryz.ntmps104
  go_wp2_with fail
  go_region_held3 (fun w' => w'.cell? ⟨w.heap.size, 0, none⟩ = some (.int .i64 19) ∧ w'.cell? ⟨w.heap.size, 1, none⟩ = some (.string t) ∧ w'.cell? ⟨w.heap.size, 2, none⟩ = some (.int .i64 nu) ∧ w'.cell? ⟨w.heap.size, 3, none⟩ = some (.int .i64 p) ∧ w'.cell? ⟨w.heap.size, 4, none⟩ = some (.slice (some ⟨g, o, none⟩) 2 cap) ∧ w'.cell? ⟨w.heap.size, 5, none⟩ = some (.int .i64 tk) ∧ w'.cell? ⟨w.heap.size, 6, none⟩ = some (.string tn) ∧ w'.cell? ⟨w.heap.size, 7, none⟩ = some (.int .i64 r) ∧ w'.cell? ⟨w.heap.size, 8, none⟩ = some (.int .i64 u) ∧ w'.cell? ⟨g, o, none⟩ = some (.int .i64 h0.kind) ∧ w'.cell? ⟨g, o + 1, none⟩ = some (.string h0.text) ∧ w'.cell? ⟨g, o + 2, none⟩ = some (.int .i64 h0.num) ∧ w'.cell? ⟨g, o + 3, none⟩ = some (.int .i64 h0.pos) ∧ w'.cell? ⟨g, o + 4, none⟩ = some (.slice A0 n0 c0) ∧ w'.cell? ⟨g, o + 5, none⟩ = some (.int .i64 h0.tk) ∧ w'.cell? ⟨g, o + 6, none⟩ = some (.string h0.tn) ∧ w'.cell? ⟨g, o + 7, none⟩ = some (.int .i64 h0.ref) ∧ w'.cell? ⟨g, o + 8, none⟩ = some (.int .i64 h0.up) ∧ w'.cell? ⟨g, o + 9, none⟩ = some (.int .i64 h1.kind) ∧ w'.cell? ⟨g, o + 9 + 1, none⟩ = some (.string h1.text) ∧ w'.cell? ⟨g, o + 9 + 2, none⟩ = some (.int .i64 h1.num) ∧ w'.cell? ⟨g, o + 9 + 3, none⟩ = some (.int .i64 h1.pos) ∧ w'.cell? ⟨g, o + 9 + 4, none⟩ = some (.slice A1 n1 c1) ∧ w'.cell? ⟨g, o + 9 + 5, none⟩ = some (.int .i64 h1.tk) ∧ w'.cell? ⟨g, o + 9 + 6, none⟩ = some (.string h1.tn) ∧ w'.cell? ⟨g, o + 9 + 7, none⟩ = some (.int .i64 h1.ref) ∧ w'.cell? ⟨g, o + 9 + 8, none⟩ = some (.int .i64 h1.up) ∧ Below w.heap.size w w')
    (first | exact HS.out.start | exact RS2.keep (hq := ⟨19, t, nu, p, tk, tn, r, u⟩) (Aq := (some ⟨g, o, none⟩)) (nq := 2) (cq := cap) (by assumption) hb)
    (first | (go_at_call 75; (with_reducible refine (HC0.out _ ?_).mono ?_); (go_split_ands; assumption); rintro e w' ⟨rfl, hb⟩) | (go_at_call 55; (with_reducible refine (HC1.out _ ?_).mono ?_); (go_split_ands; assumption); rintro e w' ⟨rfl, hb⟩))
  all_goals
    have HBE : Hid (Below w.heap.size w w') := Lib.hid (by go_split_ands; assumption)
    go_wp2
    go_ret
    exact ⟨str_fin (by rw [HX0.out, HX1.out] <;> simp), HBE.out⟩
set_option maxRecDepth 100000 in
set_option maxHeartbeats 8000000 in
theorem rs_19n {d : Int} (t : ByteArray) (nu p tk : Int) (tn : ByteArray) (r u : Int) (h0 : Hd) (k0 : Fo) (h1 : Hd) (k1 : Fo) (lt : t.size ≤ 20000) (s1 : Bs) (P1 : CX 55 d h1 k1 s1) (l1 : s1.length ≤ 1000000000000) (h9 : (h0.kind == 9) = true) : CX 104 d ⟨19, t, nu, p, tk, tn, r, u⟩ (.cons h0 k0 (.cons h1 k1 .nil)) ([102, 111, 114, 32] ++ s1) := by
  intro A cap w hk
  obtain ⟨g, o, A0, c0, A1, c1, rfl, D0, hk0, D1, hk1, hg⟩ := kid2 hk
  have HC1 := Lib.hid (P1.at (cap := c1) hk1)
  obtain ⟨x1, hx1⟩ : ∃ x, tx s1 = x := ⟨_, rfl⟩
  have HX1 : Hid (s1 = x1.data.toList) := Lib.hid (by rw [← hx1])
  rw [hx1] at HC1
  clear hx1
  obtain ⟨n0, hn0⟩ : ∃ n, k0.len = n := ⟨_, rfl⟩
  rw [hn0] at D0
  obtain ⟨n1, hn1⟩ : ∃ n, k1.len = n := ⟨_, rfl⟩
  rw [hn1] at D1 HC1
  show RT 104 #[.agg #[.int .i64 19, .string t, .int .i64 nu, .int .i64 p, .slice (some ⟨g, o, none⟩) 2 cap, .int .i64 tk, .string tn, .int .i64 r, .int .i64 u], .int .i64 d] w _
  have hgn : ¬ g = w.heap.size := by omega
  have hg1 : g < w.heap.size + 1 := by omega
  have y1 : x1.size ≤ 1000000000000 := by have e := congrArg List.length HX1.out; have e2 : x1.data.toList.length = x1.size := rfl; omega
  have z0 : ¬ 9223372036854775807 < 4 + x1.size := by omega
  clear lt l1 y1
  have HB0 : Hid (Below w.heap.size w (w.alloc (xo ⟨19, t, nu, p, tk, tn, r, u⟩ (some ⟨g, o, none⟩) 2 cap))) := Lib.hid (b1 w _)
  obtain ⟨d00, d01, d02, d03, d04, d05, d06, d07, d08⟩ := D0
  obtain ⟨d10, d11, d12, d13, d14, d15, d16, d17, d18⟩ := D1
  clear hk hk0 hk1 hn0 hn1 P1
  go_enter Tryz.func104, Tryz.ntmps104
  go_wp2_with (first | (go_at_call 55; (with_reducible refine (HC1.out _ HB0.out).mono ?_); rintro e V ⟨rfl, hb⟩; have HB0 := Lib.hid (HB0.out.trans (hb.mono HB0.out.size)); clear hb))
  all_goals go_ret
  all_goals exact ⟨str_fin (by rw [HX1.out]; simp), HB0.out⟩
end Go.Proofs.YticbcnhbpbaocaaGreatDoor

set_option linter.all false
namespace Go.Proofs.YticbcnhbpbaocaaGreatDoor
open Go.RowKit T T.Fo
set_option linter.all false
set_option maxRecDepth 100000 in
set_option maxHeartbeats 8000000 in
theorem rvar_no {d : Int} (t : ByteArray) (nu p tk : Int) (tn : ByteArray) (r u : Int) (h0 : Hd) (k0 : Fo) (h1 : Hd) (k1 : Fo) (lt : t.size ≤ 20000) (s0 : Bs) (e0 : typeS h0 = s0) (hm0 : h0.text.size ≤ 20000) (l0 : s0.length ≤ 1000000000000)  (h9 : (h1.kind != 9) = false) : CX 53 d ⟨6, t, nu, p, tk, tn, r, u⟩ (.cons h0 k0 (.cons h1 k1 .nil)) ([118, 97, 114, 32] ++ t.data.toList ++ [32] ++ s0) := by
  intro A cap w hk
  obtain ⟨g, o, A0, c0, A1, c1, rfl, D0, hk0, D1, hk1, hg⟩ := kid2 hk
  have HC0 : Hid (RA 54 #[nv h0 A0 k0.len c0] w (tx s0)) := Lib.hid fun V _ => e0 ▸ rtype_any h0 A0 k0.len c0 V hm0
  obtain ⟨x0, hx0⟩ : ∃ x, tx s0 = x := ⟨_, rfl⟩
  have HX0 : Hid (s0 = x0.data.toList) := Lib.hid (by rw [← hx0])
  rw [hx0] at HC0
  clear hx0
  obtain ⟨n0, hn0⟩ : ∃ n, k0.len = n := ⟨_, rfl⟩
  rw [hn0] at D0 HC0
  obtain ⟨n1, hn1⟩ : ∃ n, k1.len = n := ⟨_, rfl⟩
  rw [hn1] at D1
  show RT 53 #[.agg #[.int .i64 6, .string t, .int .i64 nu, .int .i64 p, .slice (some ⟨g, o, none⟩) 2 cap, .int .i64 tk, .string tn, .int .i64 r, .int .i64 u], .int .i64 d] w _
  have hgn : ¬ g = w.heap.size := by omega
  have hg1 : g < w.heap.size + 1 := by omega
  have y0 : x0.size ≤ 1000000000000 := by have e := congrArg List.length HX0.out; have e2 : x0.data.toList.length = x0.size := rfl; omega
  have z0 : ¬ 9223372036854775807 < 4 + t.size := by omega
  have z1 : ¬ 9223372036854775807 < 4 + t.size + 1 := by omega
  have z2 : ¬ 9223372036854775807 < 4 + t.size + 1 + x0.size := by omega
  clear lt l0 y0
  have HB0 : Hid (Below w.heap.size w (w.alloc (xo ⟨6, t, nu, p, tk, tn, r, u⟩ (some ⟨g, o, none⟩) 2 cap))) := Lib.hid (b1 w _)
  have HS := Lib.hid (RS2.mk (xnb w ⟨6, t, nu, p, tk, tn, r, u⟩ (some ⟨g, o, none⟩) 2 cap) (x9 _ D0 hg) (x9 _ D1 hg) (b1 w (xo ⟨6, t, nu, p, tk, tn, r, u⟩ (some ⟨g, o, none⟩) 2 cap)))
  obtain ⟨d00, d01, d02, d03, d04, d05, d06, d07, d08⟩ := D0
  obtain ⟨d10, d11, d12, d13, d14, d15, d16, d17, d18⟩ := D1
  clear hk hk0 hk1 hn0 hn1 e0 hm0
  go_enter Tryz.func53, Tryz.ntmps53
  go_wp2_with fail
  go_region_held3 (fun w' => w'.cell? ⟨w.heap.size, 0, none⟩ = some (.int .i64 6) ∧ w'.cell? ⟨w.heap.size, 1, none⟩ = some (.string t) ∧ w'.cell? ⟨w.heap.size, 2, none⟩ = some (.int .i64 nu) ∧ w'.cell? ⟨w.heap.size, 3, none⟩ = some (.int .i64 p) ∧ w'.cell? ⟨w.heap.size, 4, none⟩ = some (.slice (some ⟨g, o, none⟩) 2 cap) ∧ w'.cell? ⟨w.heap.size, 5, none⟩ = some (.int .i64 tk) ∧ w'.cell? ⟨w.heap.size, 6, none⟩ = some (.string tn) ∧ w'.cell? ⟨w.heap.size, 7, none⟩ = some (.int .i64 r) ∧ w'.cell? ⟨w.heap.size, 8, none⟩ = some (.int .i64 u) ∧ w'.cell? ⟨g, o, none⟩ = some (.int .i64 h0.kind) ∧ w'.cell? ⟨g, o + 1, none⟩ = some (.string h0.text) ∧ w'.cell? ⟨g, o + 2, none⟩ = some (.int .i64 h0.num) ∧ w'.cell? ⟨g, o + 3, none⟩ = some (.int .i64 h0.pos) ∧ w'.cell? ⟨g, o + 4, none⟩ = some (.slice A0 n0 c0) ∧ w'.cell? ⟨g, o + 5, none⟩ = some (.int .i64 h0.tk) ∧ w'.cell? ⟨g, o + 6, none⟩ = some (.string h0.tn) ∧ w'.cell? ⟨g, o + 7, none⟩ = some (.int .i64 h0.ref) ∧ w'.cell? ⟨g, o + 8, none⟩ = some (.int .i64 h0.up) ∧ w'.cell? ⟨g, o + 9, none⟩ = some (.int .i64 h1.kind) ∧ w'.cell? ⟨g, o + 9 + 1, none⟩ = some (.string h1.text) ∧ w'.cell? ⟨g, o + 9 + 2, none⟩ = some (.int .i64 h1.num) ∧ w'.cell? ⟨g, o + 9 + 3, none⟩ = some (.int .i64 h1.pos) ∧ w'.cell? ⟨g, o + 9 + 4, none⟩ = some (.slice A1 n1 c1) ∧ w'.cell? ⟨g, o + 9 + 5, none⟩ = some (.int .i64 h1.tk) ∧ w'.cell? ⟨g, o + 9 + 6, none⟩ = some (.string h1.tn) ∧ w'.cell? ⟨g, o + 9 + 7, none⟩ = some (.int .i64 h1.ref) ∧ w'.cell? ⟨g, o + 9 + 8, none⟩ = some (.int .i64 h1.up) ∧ Below w.heap.size w w')
    (first | exact HS.out.start | exact RS2.keep (hq := ⟨6, t, nu, p, tk, tn, r, u⟩) (Aq := (some ⟨g, o, none⟩)) (nq := 2) (cq := cap) (by assumption) hb)
    (first | (go_at_call 54; (with_reducible refine (HC0.out _ ?_).mono ?_); (go_split_ands; assumption); rintro e w' ⟨rfl, hb⟩))
  all_goals
    have HBE : Hid (Below w.heap.size w w') := Lib.hid (by go_split_ands; assumption)
    go_split_ands
    go_wp2
    go_ret
    exact ⟨str_fin (by rw [HX0.out] <;> simp), HBE.out⟩
set_option maxRecDepth 100000 in
set_option maxHeartbeats 8000000 in
theorem rvar_yes {d : Int} (t : ByteArray) (nu p tk : Int) (tn : ByteArray) (r u : Int) (h0 : Hd) (k0 : Fo) (h1 : Hd) (k1 : Fo) (lt : t.size ≤ 20000) (s0 : Bs) (e0 : typeS h0 = s0) (hm0 : h0.text.size ≤ 20000) (l0 : s0.length ≤ 1000000000000) (s1 : Bs) (P1 : CX 75 d h1 k1 s1) (l1 : s1.length ≤ 1000000000000) (h9 : (h1.kind != 9) = true) : CX 53 d ⟨6, t, nu, p, tk, tn, r, u⟩ (.cons h0 k0 (.cons h1 k1 .nil)) ([118, 97, 114, 32] ++ t.data.toList ++ [32] ++ s0 ++ ([32, 61, 32] ++ s1)) := by
  intro A cap w hk
  obtain ⟨g, o, A0, c0, A1, c1, rfl, D0, hk0, D1, hk1, hg⟩ := kid2 hk
  have HC0 : Hid (RA 54 #[nv h0 A0 k0.len c0] w (tx s0)) := Lib.hid fun V _ => e0 ▸ rtype_any h0 A0 k0.len c0 V hm0
  obtain ⟨x0, hx0⟩ : ∃ x, tx s0 = x := ⟨_, rfl⟩
  have HX0 : Hid (s0 = x0.data.toList) := Lib.hid (by rw [← hx0])
  rw [hx0] at HC0
  clear hx0
  have HC1 := Lib.hid (P1.at (cap := c1) hk1)
  obtain ⟨x1, hx1⟩ : ∃ x, tx s1 = x := ⟨_, rfl⟩
  have HX1 : Hid (s1 = x1.data.toList) := Lib.hid (by rw [← hx1])
  rw [hx1] at HC1
  clear hx1
  obtain ⟨n0, hn0⟩ : ∃ n, k0.len = n := ⟨_, rfl⟩
  rw [hn0] at D0 HC0
  obtain ⟨n1, hn1⟩ : ∃ n, k1.len = n := ⟨_, rfl⟩
  rw [hn1] at D1 HC1
  show RT 53 #[.agg #[.int .i64 6, .string t, .int .i64 nu, .int .i64 p, .slice (some ⟨g, o, none⟩) 2 cap, .int .i64 tk, .string tn, .int .i64 r, .int .i64 u], .int .i64 d] w _
  have hgn : ¬ g = w.heap.size := by omega
  have hg1 : g < w.heap.size + 1 := by omega
  have y0 : x0.size ≤ 1000000000000 := by have e := congrArg List.length HX0.out; have e2 : x0.data.toList.length = x0.size := rfl; omega
  have y1 : x1.size ≤ 1000000000000 := by have e := congrArg List.length HX1.out; have e2 : x1.data.toList.length = x1.size := rfl; omega
  have z0 : ¬ 9223372036854775807 < 4 + t.size := by omega
  have z1 : ¬ 9223372036854775807 < 4 + t.size + 1 := by omega
  have z2 : ¬ 9223372036854775807 < 4 + t.size + 1 + x0.size := by omega
  have z3 : ¬ 9223372036854775807 < 3 + x1.size := by omega
  have z4 : ¬ 9223372036854775807 < 4 + t.size + 1 + x0.size + (3 + x1.size) := by omega
  clear lt l0 y0 l1 y1
  have HB0 : Hid (Below w.heap.size w (w.alloc (xo ⟨6, t, nu, p, tk, tn, r, u⟩ (some ⟨g, o, none⟩) 2 cap))) := Lib.hid (b1 w _)
  have HS := Lib.hid (RS2.mk (xnb w ⟨6, t, nu, p, tk, tn, r, u⟩ (some ⟨g, o, none⟩) 2 cap) (x9 _ D0 hg) (x9 _ D1 hg) (b1 w (xo ⟨6, t, nu, p, tk, tn, r, u⟩ (some ⟨g, o, none⟩) 2 cap)))
  obtain ⟨d00, d01, d02, d03, d04, d05, d06, d07, d08⟩ := D0
  obtain ⟨d10, d11, d12, d13, d14, d15, d16, d17, d18⟩ := D1
  clear hk hk0 hk1 hn0 hn1 e0 hm0 P1
  go_enter Tryz.func53, Tryz.ntmps53
  go_wp2_with fail
  go_region_held3 (fun w' => w'.cell? ⟨w.heap.size, 0, none⟩ = some (.int .i64 6) ∧ w'.cell? ⟨w.heap.size, 1, none⟩ = some (.string t) ∧ w'.cell? ⟨w.heap.size, 2, none⟩ = some (.int .i64 nu) ∧ w'.cell? ⟨w.heap.size, 3, none⟩ = some (.int .i64 p) ∧ w'.cell? ⟨w.heap.size, 4, none⟩ = some (.slice (some ⟨g, o, none⟩) 2 cap) ∧ w'.cell? ⟨w.heap.size, 5, none⟩ = some (.int .i64 tk) ∧ w'.cell? ⟨w.heap.size, 6, none⟩ = some (.string tn) ∧ w'.cell? ⟨w.heap.size, 7, none⟩ = some (.int .i64 r) ∧ w'.cell? ⟨w.heap.size, 8, none⟩ = some (.int .i64 u) ∧ w'.cell? ⟨g, o, none⟩ = some (.int .i64 h0.kind) ∧ w'.cell? ⟨g, o + 1, none⟩ = some (.string h0.text) ∧ w'.cell? ⟨g, o + 2, none⟩ = some (.int .i64 h0.num) ∧ w'.cell? ⟨g, o + 3, none⟩ = some (.int .i64 h0.pos) ∧ w'.cell? ⟨g, o + 4, none⟩ = some (.slice A0 n0 c0) ∧ w'.cell? ⟨g, o + 5, none⟩ = some (.int .i64 h0.tk) ∧ w'.cell? ⟨g, o + 6, none⟩ = some (.string h0.tn) ∧ w'.cell? ⟨g, o + 7, none⟩ = some (.int .i64 h0.ref) ∧ w'.cell? ⟨g, o + 8, none⟩ = some (.int .i64 h0.up) ∧ w'.cell? ⟨g, o + 9, none⟩ = some (.int .i64 h1.kind) ∧ w'.cell? ⟨g, o + 9 + 1, none⟩ = some (.string h1.text) ∧ w'.cell? ⟨g, o + 9 + 2, none⟩ = some (.int .i64 h1.num) ∧ w'.cell? ⟨g, o + 9 + 3, none⟩ = some (.int .i64 h1.pos) ∧ w'.cell? ⟨g, o + 9 + 4, none⟩ = some (.slice A1 n1 c1) ∧ w'.cell? ⟨g, o + 9 + 5, none⟩ = some (.int .i64 h1.tk) ∧ w'.cell? ⟨g, o + 9 + 6, none⟩ = some (.string h1.tn) ∧ w'.cell? ⟨g, o + 9 + 7, none⟩ = some (.int .i64 h1.ref) ∧ w'.cell? ⟨g, o + 9 + 8, none⟩ = some (.int .i64 h1.up) ∧ Below w.heap.size w w')
    (first | exact HS.out.start | exact RS2.keep (hq := ⟨6, t, nu, p, tk, tn, r, u⟩) (Aq := (some ⟨g, o, none⟩)) (nq := 2) (cq := cap) (by assumption) hb)
    (first | (go_at_call 54; (with_reducible refine (HC0.out _ ?_).mono ?_); (go_split_ands; assumption); rintro e w' ⟨rfl, hb⟩))
  all_goals
    have HBE : Hid (Below w.heap.size w w') := Lib.hid (by go_split_ands; assumption)
    go_split_ands
    go_wp2_with (first | (go_at_call 75; (with_reducible refine (HC1.out _ HBE.out).mono ?_); rintro e V ⟨rfl, hb⟩; have HBE := Lib.hid (HBE.out.trans (hb.mono HBE.out.size)); clear hb))
    go_ret
    exact ⟨str_fin (by rw [HX0.out, HX1.out] <;> simp), HBE.out⟩
set_option maxRecDepth 100000 in
set_option maxHeartbeats 8000000 in
theorem rif_no {d : Int} (t : ByteArray) (nu p tk : Int) (tn : ByteArray) (r u : Int) (h0 : Hd) (k0 : Fo) (h1 : Hd) (k1 : Fo) (h2 : Hd) (k2 : Fo) (lt : t.size ≤ 20000) (s0 : Bs) (P0 : CX 75 d h0 k0 s0) (l0 : s0.length ≤ 1000000000000) (s1 : Bs) (P1 : CX 55 d h1 k1 s1) (l1 : s1.length ≤ 1000000000000)  (e10 : (h2.kind == 10) = false) (e18 : (h2.kind == 18) = false) : CX 118 d ⟨18, t, nu, p, tk, tn, r, u⟩ (.cons h0 k0 (.cons h1 k1 (.cons h2 k2 .nil))) ([105, 102, 32] ++ s0 ++ [32] ++ s1) := by
  intro A cap w hk
  obtain ⟨g, o, A0, c0, A1, c1, A2, c2, rfl, D0, hk0, D1, hk1, D2, hk2, hg⟩ := kid3 hk
  have HC0 := Lib.hid (P0.at (cap := c0) hk0)
  obtain ⟨x0, hx0⟩ : ∃ x, tx s0 = x := ⟨_, rfl⟩
  have HX0 : Hid (s0 = x0.data.toList) := Lib.hid (by rw [← hx0])
  rw [hx0] at HC0
  clear hx0
  have HC1 := Lib.hid (P1.at (cap := c1) hk1)
  obtain ⟨x1, hx1⟩ : ∃ x, tx s1 = x := ⟨_, rfl⟩
  have HX1 : Hid (s1 = x1.data.toList) := Lib.hid (by rw [← hx1])
  rw [hx1] at HC1
  clear hx1
  obtain ⟨n0, hn0⟩ : ∃ n, k0.len = n := ⟨_, rfl⟩
  rw [hn0] at D0 HC0
  obtain ⟨n1, hn1⟩ : ∃ n, k1.len = n := ⟨_, rfl⟩
  rw [hn1] at D1 HC1
  obtain ⟨n2, hn2⟩ : ∃ n, k2.len = n := ⟨_, rfl⟩
  rw [hn2] at D2
  show RT 118 #[.agg #[.int .i64 18, .string t, .int .i64 nu, .int .i64 p, .slice (some ⟨g, o, none⟩) 3 cap, .int .i64 tk, .string tn, .int .i64 r, .int .i64 u], .int .i64 d] w _
  have hgn : ¬ g = w.heap.size := by omega
  have hg1 : g < w.heap.size + 1 := by omega
  have y0 : x0.size ≤ 1000000000000 := by have e := congrArg List.length HX0.out; have e2 : x0.data.toList.length = x0.size := rfl; omega
  have y1 : x1.size ≤ 1000000000000 := by have e := congrArg List.length HX1.out; have e2 : x1.data.toList.length = x1.size := rfl; omega
  have z0 : ¬ 9223372036854775807 < 3 + x0.size := by omega
  have z1 : ¬ 9223372036854775807 < 3 + x0.size + 1 := by omega
  have z2 : ¬ 9223372036854775807 < 3 + x0.size + 1 + x1.size := by omega
  clear lt l0 y0 l1 y1
  have HB0 : Hid (Below w.heap.size w (w.alloc (xo ⟨18, t, nu, p, tk, tn, r, u⟩ (some ⟨g, o, none⟩) 3 cap))) := Lib.hid (b1 w _)
  have HS := Lib.hid (RS3.mk (xnb w ⟨18, t, nu, p, tk, tn, r, u⟩ (some ⟨g, o, none⟩) 3 cap) (x9 _ D0 hg) (x9 _ D1 hg) (x9 _ D2 hg) (b1 w (xo ⟨18, t, nu, p, tk, tn, r, u⟩ (some ⟨g, o, none⟩) 3 cap)))
  obtain ⟨d00, d01, d02, d03, d04, d05, d06, d07, d08⟩ := D0
  obtain ⟨d10, d11, d12, d13, d14, d15, d16, d17, d18⟩ := D1
  obtain ⟨d20, d21, d22, d23, d24, d25, d26, d27, d28⟩ := D2
  clear hk hk0 hk1 hk2 hn0 hn1 hn2 P0 P1
  go_enter Tryz.func118, Tryz.ntmps118
  go_wp2_with fail
  go_region_held3 (fun w' => w'.cell? ⟨w.heap.size, 0, none⟩ = some (.int .i64 18) ∧ w'.cell? ⟨w.heap.size, 1, none⟩ = some (.string t) ∧ w'.cell? ⟨w.heap.size, 2, none⟩ = some (.int .i64 nu) ∧ w'.cell? ⟨w.heap.size, 3, none⟩ = some (.int .i64 p) ∧ w'.cell? ⟨w.heap.size, 4, none⟩ = some (.slice (some ⟨g, o, none⟩) 3 cap) ∧ w'.cell? ⟨w.heap.size, 5, none⟩ = some (.int .i64 tk) ∧ w'.cell? ⟨w.heap.size, 6, none⟩ = some (.string tn) ∧ w'.cell? ⟨w.heap.size, 7, none⟩ = some (.int .i64 r) ∧ w'.cell? ⟨w.heap.size, 8, none⟩ = some (.int .i64 u) ∧ w'.cell? ⟨g, o, none⟩ = some (.int .i64 h0.kind) ∧ w'.cell? ⟨g, o + 1, none⟩ = some (.string h0.text) ∧ w'.cell? ⟨g, o + 2, none⟩ = some (.int .i64 h0.num) ∧ w'.cell? ⟨g, o + 3, none⟩ = some (.int .i64 h0.pos) ∧ w'.cell? ⟨g, o + 4, none⟩ = some (.slice A0 n0 c0) ∧ w'.cell? ⟨g, o + 5, none⟩ = some (.int .i64 h0.tk) ∧ w'.cell? ⟨g, o + 6, none⟩ = some (.string h0.tn) ∧ w'.cell? ⟨g, o + 7, none⟩ = some (.int .i64 h0.ref) ∧ w'.cell? ⟨g, o + 8, none⟩ = some (.int .i64 h0.up) ∧ w'.cell? ⟨g, o + 9, none⟩ = some (.int .i64 h1.kind) ∧ w'.cell? ⟨g, o + 9 + 1, none⟩ = some (.string h1.text) ∧ w'.cell? ⟨g, o + 9 + 2, none⟩ = some (.int .i64 h1.num) ∧ w'.cell? ⟨g, o + 9 + 3, none⟩ = some (.int .i64 h1.pos) ∧ w'.cell? ⟨g, o + 9 + 4, none⟩ = some (.slice A1 n1 c1) ∧ w'.cell? ⟨g, o + 9 + 5, none⟩ = some (.int .i64 h1.tk) ∧ w'.cell? ⟨g, o + 9 + 6, none⟩ = some (.string h1.tn) ∧ w'.cell? ⟨g, o + 9 + 7, none⟩ = some (.int .i64 h1.ref) ∧ w'.cell? ⟨g, o + 9 + 8, none⟩ = some (.int .i64 h1.up) ∧ w'.cell? ⟨g, o + 18, none⟩ = some (.int .i64 h2.kind) ∧ w'.cell? ⟨g, o + 18 + 1, none⟩ = some (.string h2.text) ∧ w'.cell? ⟨g, o + 18 + 2, none⟩ = some (.int .i64 h2.num) ∧ w'.cell? ⟨g, o + 18 + 3, none⟩ = some (.int .i64 h2.pos) ∧ w'.cell? ⟨g, o + 18 + 4, none⟩ = some (.slice A2 n2 c2) ∧ w'.cell? ⟨g, o + 18 + 5, none⟩ = some (.int .i64 h2.tk) ∧ w'.cell? ⟨g, o + 18 + 6, none⟩ = some (.string h2.tn) ∧ w'.cell? ⟨g, o + 18 + 7, none⟩ = some (.int .i64 h2.ref) ∧ w'.cell? ⟨g, o + 18 + 8, none⟩ = some (.int .i64 h2.up) ∧ Below w.heap.size w w')
    (first | exact HS.out.start | exact RS3.keep (hq := ⟨18, t, nu, p, tk, tn, r, u⟩) (Aq := (some ⟨g, o, none⟩)) (nq := 3) (cq := cap) (by assumption) hb)
    (first | (go_at_call 75; (with_reducible refine (HC0.out _ ?_).mono ?_); (go_split_ands; assumption); rintro e w' ⟨rfl, hb⟩) | (go_at_call 55; (with_reducible refine (HC1.out _ ?_).mono ?_); (go_split_ands; assumption); rintro e w' ⟨rfl, hb⟩))
  all_goals
    have HBE : Hid (Below w.heap.size w w') := Lib.hid (by go_split_ands; assumption)
    go_split_ands
    go_wp2
    go_ret
    exact ⟨str_fin (by rw [HX0.out, HX1.out] <;> simp), HBE.out⟩
set_option maxRecDepth 100000 in
set_option maxHeartbeats 8000000 in
theorem rif_bl {d : Int} (t : ByteArray) (nu p tk : Int) (tn : ByteArray) (r u : Int) (h0 : Hd) (k0 : Fo) (h1 : Hd) (k1 : Fo) (h2 : Hd) (k2 : Fo) (lt : t.size ≤ 20000) (s0 : Bs) (P0 : CX 75 d h0 k0 s0) (l0 : s0.length ≤ 1000000000000) (s1 : Bs) (P1 : CX 55 d h1 k1 s1) (l1 : s1.length ≤ 1000000000000) (s2 : Bs) (P2 : CX 55 d h2 k2 s2) (l2 : s2.length ≤ 1000000000000) (e10 : (h2.kind == 10) = true) : CX 118 d ⟨18, t, nu, p, tk, tn, r, u⟩ (.cons h0 k0 (.cons h1 k1 (.cons h2 k2 .nil))) ([105, 102, 32] ++ s0 ++ [32] ++ s1 ++ ([32, 101, 108, 115, 101, 32] ++ s2)) := by
  intro A cap w hk
  obtain ⟨g, o, A0, c0, A1, c1, A2, c2, rfl, D0, hk0, D1, hk1, D2, hk2, hg⟩ := kid3 hk
  have HC0 := Lib.hid (P0.at (cap := c0) hk0)
  obtain ⟨x0, hx0⟩ : ∃ x, tx s0 = x := ⟨_, rfl⟩
  have HX0 : Hid (s0 = x0.data.toList) := Lib.hid (by rw [← hx0])
  rw [hx0] at HC0
  clear hx0
  have HC1 := Lib.hid (P1.at (cap := c1) hk1)
  obtain ⟨x1, hx1⟩ : ∃ x, tx s1 = x := ⟨_, rfl⟩
  have HX1 : Hid (s1 = x1.data.toList) := Lib.hid (by rw [← hx1])
  rw [hx1] at HC1
  clear hx1
  have HC2 := Lib.hid (P2.at (cap := c2) hk2)
  obtain ⟨x2, hx2⟩ : ∃ x, tx s2 = x := ⟨_, rfl⟩
  have HX2 : Hid (s2 = x2.data.toList) := Lib.hid (by rw [← hx2])
  rw [hx2] at HC2
  clear hx2
  obtain ⟨n0, hn0⟩ : ∃ n, k0.len = n := ⟨_, rfl⟩
  rw [hn0] at D0 HC0
  obtain ⟨n1, hn1⟩ : ∃ n, k1.len = n := ⟨_, rfl⟩
  rw [hn1] at D1 HC1
  obtain ⟨n2, hn2⟩ : ∃ n, k2.len = n := ⟨_, rfl⟩
  rw [hn2] at D2 HC2
  show RT 118 #[.agg #[.int .i64 18, .string t, .int .i64 nu, .int .i64 p, .slice (some ⟨g, o, none⟩) 3 cap, .int .i64 tk, .string tn, .int .i64 r, .int .i64 u], .int .i64 d] w _
  have hgn : ¬ g = w.heap.size := by omega
  have hg1 : g < w.heap.size + 1 := by omega
  have y0 : x0.size ≤ 1000000000000 := by have e := congrArg List.length HX0.out; have e2 : x0.data.toList.length = x0.size := rfl; omega
  have y1 : x1.size ≤ 1000000000000 := by have e := congrArg List.length HX1.out; have e2 : x1.data.toList.length = x1.size := rfl; omega
  have y2 : x2.size ≤ 1000000000000 := by have e := congrArg List.length HX2.out; have e2 : x2.data.toList.length = x2.size := rfl; omega
  have z0 : ¬ 9223372036854775807 < 3 + x0.size := by omega
  have z1 : ¬ 9223372036854775807 < 3 + x0.size + 1 := by omega
  have z2 : ¬ 9223372036854775807 < 3 + x0.size + 1 + x1.size := by omega
  have z3 : ¬ 9223372036854775807 < 6 + x2.size := by omega
  have z4 : ¬ 9223372036854775807 < 3 + x0.size + 1 + x1.size + (6 + x2.size) := by omega
  clear lt l0 y0 l1 y1 l2 y2
  have HB0 : Hid (Below w.heap.size w (w.alloc (xo ⟨18, t, nu, p, tk, tn, r, u⟩ (some ⟨g, o, none⟩) 3 cap))) := Lib.hid (b1 w _)
  have HS := Lib.hid (RS3.mk (xnb w ⟨18, t, nu, p, tk, tn, r, u⟩ (some ⟨g, o, none⟩) 3 cap) (x9 _ D0 hg) (x9 _ D1 hg) (x9 _ D2 hg) (b1 w (xo ⟨18, t, nu, p, tk, tn, r, u⟩ (some ⟨g, o, none⟩) 3 cap)))
  obtain ⟨d00, d01, d02, d03, d04, d05, d06, d07, d08⟩ := D0
  obtain ⟨d10, d11, d12, d13, d14, d15, d16, d17, d18⟩ := D1
  obtain ⟨d20, d21, d22, d23, d24, d25, d26, d27, d28⟩ := D2
  clear hk hk0 hk1 hk2 hn0 hn1 hn2 P0 P1 P2
  go_enter Tryz.func118, Tryz.ntmps118
  go_wp2_with fail
  go_region_held3 (fun w' => w'.cell? ⟨w.heap.size, 0, none⟩ = some (.int .i64 18) ∧ w'.cell? ⟨w.heap.size, 1, none⟩ = some (.string t) ∧ w'.cell? ⟨w.heap.size, 2, none⟩ = some (.int .i64 nu) ∧ w'.cell? ⟨w.heap.size, 3, none⟩ = some (.int .i64 p) ∧ w'.cell? ⟨w.heap.size, 4, none⟩ = some (.slice (some ⟨g, o, none⟩) 3 cap) ∧ w'.cell? ⟨w.heap.size, 5, none⟩ = some (.int .i64 tk) ∧ w'.cell? ⟨w.heap.size, 6, none⟩ = some (.string tn) ∧ w'.cell? ⟨w.heap.size, 7, none⟩ = some (.int .i64 r) ∧ w'.cell? ⟨w.heap.size, 8, none⟩ = some (.int .i64 u) ∧ w'.cell? ⟨g, o, none⟩ = some (.int .i64 h0.kind) ∧ w'.cell? ⟨g, o + 1, none⟩ = some (.string h0.text) ∧ w'.cell? ⟨g, o + 2, none⟩ = some (.int .i64 h0.num) ∧ w'.cell? ⟨g, o + 3, none⟩ = some (.int .i64 h0.pos) ∧ w'.cell? ⟨g, o + 4, none⟩ = some (.slice A0 n0 c0) ∧ w'.cell? ⟨g, o + 5, none⟩ = some (.int .i64 h0.tk) ∧ w'.cell? ⟨g, o + 6, none⟩ = some (.string h0.tn) ∧ w'.cell? ⟨g, o + 7, none⟩ = some (.int .i64 h0.ref) ∧ w'.cell? ⟨g, o + 8, none⟩ = some (.int .i64 h0.up) ∧ w'.cell? ⟨g, o + 9, none⟩ = some (.int .i64 h1.kind) ∧ w'.cell? ⟨g, o + 9 + 1, none⟩ = some (.string h1.text) ∧ w'.cell? ⟨g, o + 9 + 2, none⟩ = some (.int .i64 h1.num) ∧ w'.cell? ⟨g, o + 9 + 3, none⟩ = some (.int .i64 h1.pos) ∧ w'.cell? ⟨g, o + 9 + 4, none⟩ = some (.slice A1 n1 c1) ∧ w'.cell? ⟨g, o + 9 + 5, none⟩ = some (.int .i64 h1.tk) ∧ w'.cell? ⟨g, o + 9 + 6, none⟩ = some (.string h1.tn) ∧ w'.cell? ⟨g, o + 9 + 7, none⟩ = some (.int .i64 h1.ref) ∧ w'.cell? ⟨g, o + 9 + 8, none⟩ = some (.int .i64 h1.up) ∧ w'.cell? ⟨g, o + 18, none⟩ = some (.int .i64 h2.kind) ∧ w'.cell? ⟨g, o + 18 + 1, none⟩ = some (.string h2.text) ∧ w'.cell? ⟨g, o + 18 + 2, none⟩ = some (.int .i64 h2.num) ∧ w'.cell? ⟨g, o + 18 + 3, none⟩ = some (.int .i64 h2.pos) ∧ w'.cell? ⟨g, o + 18 + 4, none⟩ = some (.slice A2 n2 c2) ∧ w'.cell? ⟨g, o + 18 + 5, none⟩ = some (.int .i64 h2.tk) ∧ w'.cell? ⟨g, o + 18 + 6, none⟩ = some (.string h2.tn) ∧ w'.cell? ⟨g, o + 18 + 7, none⟩ = some (.int .i64 h2.ref) ∧ w'.cell? ⟨g, o + 18 + 8, none⟩ = some (.int .i64 h2.up) ∧ Below w.heap.size w w')
    (first | exact HS.out.start | exact RS3.keep (hq := ⟨18, t, nu, p, tk, tn, r, u⟩) (Aq := (some ⟨g, o, none⟩)) (nq := 3) (cq := cap) (by assumption) hb)
    (first | (go_at_call 75; (with_reducible refine (HC0.out _ ?_).mono ?_); (go_split_ands; assumption); rintro e w' ⟨rfl, hb⟩) | (go_at_call 55; (with_reducible refine (HC1.out _ ?_).mono ?_); (go_split_ands; assumption); rintro e w' ⟨rfl, hb⟩))
  all_goals
    have HBE : Hid (Below w.heap.size w w') := Lib.hid (by go_split_ands; assumption)
    go_split_ands
    go_wp2_with (first | (go_at_call 55; (with_reducible refine (HC2.out _ HBE.out).mono ?_); rintro e V ⟨rfl, hb⟩; have HBE := Lib.hid (HBE.out.trans (hb.mono HBE.out.size)); clear hb))
    go_ret
    exact ⟨str_fin (by rw [HX0.out, HX1.out, HX2.out] <;> simp), HBE.out⟩
set_option maxRecDepth 100000 in
set_option maxHeartbeats 8000000 in
theorem rif_if {d : Int} (t : ByteArray) (nu p tk : Int) (tn : ByteArray) (r u : Int) (h0 : Hd) (k0 : Fo) (h1 : Hd) (k1 : Fo) (h2 : Hd) (k2 : Fo) (lt : t.size ≤ 20000) (s0 : Bs) (P0 : CX 75 d h0 k0 s0) (l0 : s0.length ≤ 1000000000000) (s1 : Bs) (P1 : CX 55 d h1 k1 s1) (l1 : s1.length ≤ 1000000000000) (s2 : Bs) (P2 : CX 118 d h2 k2 s2) (l2 : s2.length ≤ 1000000000000) (e10 : (h2.kind == 10) = false) (e18 : (h2.kind == 18) = true) : CX 118 d ⟨18, t, nu, p, tk, tn, r, u⟩ (.cons h0 k0 (.cons h1 k1 (.cons h2 k2 .nil))) ([105, 102, 32] ++ s0 ++ [32] ++ s1 ++ ([32, 101, 108, 115, 101, 32] ++ s2)) := by
  intro A cap w hk
  obtain ⟨g, o, A0, c0, A1, c1, A2, c2, rfl, D0, hk0, D1, hk1, D2, hk2, hg⟩ := kid3 hk
  have HC0 := Lib.hid (P0.at (cap := c0) hk0)
  obtain ⟨x0, hx0⟩ : ∃ x, tx s0 = x := ⟨_, rfl⟩
  have HX0 : Hid (s0 = x0.data.toList) := Lib.hid (by rw [← hx0])
  rw [hx0] at HC0
  clear hx0
  have HC1 := Lib.hid (P1.at (cap := c1) hk1)
  obtain ⟨x1, hx1⟩ : ∃ x, tx s1 = x := ⟨_, rfl⟩
  have HX1 : Hid (s1 = x1.data.toList) := Lib.hid (by rw [← hx1])
  rw [hx1] at HC1
  clear hx1
  have HC2 := Lib.hid (P2.at (cap := c2) hk2)
  obtain ⟨x2, hx2⟩ : ∃ x, tx s2 = x := ⟨_, rfl⟩
  have HX2 : Hid (s2 = x2.data.toList) := Lib.hid (by rw [← hx2])
  rw [hx2] at HC2
  clear hx2
  obtain ⟨n0, hn0⟩ : ∃ n, k0.len = n := ⟨_, rfl⟩
  rw [hn0] at D0 HC0
  obtain ⟨n1, hn1⟩ : ∃ n, k1.len = n := ⟨_, rfl⟩
  rw [hn1] at D1 HC1
  obtain ⟨n2, hn2⟩ : ∃ n, k2.len = n := ⟨_, rfl⟩
  rw [hn2] at D2 HC2
  show RT 118 #[.agg #[.int .i64 18, .string t, .int .i64 nu, .int .i64 p, .slice (some ⟨g, o, none⟩) 3 cap, .int .i64 tk, .string tn, .int .i64 r, .int .i64 u], .int .i64 d] w _
  have hgn : ¬ g = w.heap.size := by omega
  have hg1 : g < w.heap.size + 1 := by omega
  have y0 : x0.size ≤ 1000000000000 := by have e := congrArg List.length HX0.out; have e2 : x0.data.toList.length = x0.size := rfl; omega
  have y1 : x1.size ≤ 1000000000000 := by have e := congrArg List.length HX1.out; have e2 : x1.data.toList.length = x1.size := rfl; omega
  have y2 : x2.size ≤ 1000000000000 := by have e := congrArg List.length HX2.out; have e2 : x2.data.toList.length = x2.size := rfl; omega
  have z0 : ¬ 9223372036854775807 < 3 + x0.size := by omega
  have z1 : ¬ 9223372036854775807 < 3 + x0.size + 1 := by omega
  have z2 : ¬ 9223372036854775807 < 3 + x0.size + 1 + x1.size := by omega
  have z3 : ¬ 9223372036854775807 < 6 + x2.size := by omega
  have z4 : ¬ 9223372036854775807 < 3 + x0.size + 1 + x1.size + (6 + x2.size) := by omega
  clear lt l0 y0 l1 y1 l2 y2
  have HB0 : Hid (Below w.heap.size w (w.alloc (xo ⟨18, t, nu, p, tk, tn, r, u⟩ (some ⟨g, o, none⟩) 3 cap))) := Lib.hid (b1 w _)
  have HS := Lib.hid (RS3.mk (xnb w ⟨18, t, nu, p, tk, tn, r, u⟩ (some ⟨g, o, none⟩) 3 cap) (x9 _ D0 hg) (x9 _ D1 hg) (x9 _ D2 hg) (b1 w (xo ⟨18, t, nu, p, tk, tn, r, u⟩ (some ⟨g, o, none⟩) 3 cap)))
  obtain ⟨d00, d01, d02, d03, d04, d05, d06, d07, d08⟩ := D0
  obtain ⟨d10, d11, d12, d13, d14, d15, d16, d17, d18⟩ := D1
  obtain ⟨d20, d21, d22, d23, d24, d25, d26, d27, d28⟩ := D2
  clear hk hk0 hk1 hk2 hn0 hn1 hn2 P0 P1 P2
  go_enter Tryz.func118, Tryz.ntmps118
  go_wp2_with fail
  go_region_held3 (fun w' => w'.cell? ⟨w.heap.size, 0, none⟩ = some (.int .i64 18) ∧ w'.cell? ⟨w.heap.size, 1, none⟩ = some (.string t) ∧ w'.cell? ⟨w.heap.size, 2, none⟩ = some (.int .i64 nu) ∧ w'.cell? ⟨w.heap.size, 3, none⟩ = some (.int .i64 p) ∧ w'.cell? ⟨w.heap.size, 4, none⟩ = some (.slice (some ⟨g, o, none⟩) 3 cap) ∧ w'.cell? ⟨w.heap.size, 5, none⟩ = some (.int .i64 tk) ∧ w'.cell? ⟨w.heap.size, 6, none⟩ = some (.string tn) ∧ w'.cell? ⟨w.heap.size, 7, none⟩ = some (.int .i64 r) ∧ w'.cell? ⟨w.heap.size, 8, none⟩ = some (.int .i64 u) ∧ w'.cell? ⟨g, o, none⟩ = some (.int .i64 h0.kind) ∧ w'.cell? ⟨g, o + 1, none⟩ = some (.string h0.text) ∧ w'.cell? ⟨g, o + 2, none⟩ = some (.int .i64 h0.num) ∧ w'.cell? ⟨g, o + 3, none⟩ = some (.int .i64 h0.pos) ∧ w'.cell? ⟨g, o + 4, none⟩ = some (.slice A0 n0 c0) ∧ w'.cell? ⟨g, o + 5, none⟩ = some (.int .i64 h0.tk) ∧ w'.cell? ⟨g, o + 6, none⟩ = some (.string h0.tn) ∧ w'.cell? ⟨g, o + 7, none⟩ = some (.int .i64 h0.ref) ∧ w'.cell? ⟨g, o + 8, none⟩ = some (.int .i64 h0.up) ∧ w'.cell? ⟨g, o + 9, none⟩ = some (.int .i64 h1.kind) ∧ w'.cell? ⟨g, o + 9 + 1, none⟩ = some (.string h1.text) ∧ w'.cell? ⟨g, o + 9 + 2, none⟩ = some (.int .i64 h1.num) ∧ w'.cell? ⟨g, o + 9 + 3, none⟩ = some (.int .i64 h1.pos) ∧ w'.cell? ⟨g, o + 9 + 4, none⟩ = some (.slice A1 n1 c1) ∧ w'.cell? ⟨g, o + 9 + 5, none⟩ = some (.int .i64 h1.tk) ∧ w'.cell? ⟨g, o + 9 + 6, none⟩ = some (.string h1.tn) ∧ w'.cell? ⟨g, o + 9 + 7, none⟩ = some (.int .i64 h1.ref) ∧ w'.cell? ⟨g, o + 9 + 8, none⟩ = some (.int .i64 h1.up) ∧ w'.cell? ⟨g, o + 18, none⟩ = some (.int .i64 h2.kind) ∧ w'.cell? ⟨g, o + 18 + 1, none⟩ = some (.string h2.text) ∧ w'.cell? ⟨g, o + 18 + 2, none⟩ = some (.int .i64 h2.num) ∧ w'.cell? ⟨g, o + 18 + 3, none⟩ = some (.int .i64 h2.pos) ∧ w'.cell? ⟨g, o + 18 + 4, none⟩ = some (.slice A2 n2 c2) ∧ w'.cell? ⟨g, o + 18 + 5, none⟩ = some (.int .i64 h2.tk) ∧ w'.cell? ⟨g, o + 18 + 6, none⟩ = some (.string h2.tn) ∧ w'.cell? ⟨g, o + 18 + 7, none⟩ = some (.int .i64 h2.ref) ∧ w'.cell? ⟨g, o + 18 + 8, none⟩ = some (.int .i64 h2.up) ∧ Below w.heap.size w w')
    (first | exact HS.out.start | exact RS3.keep (hq := ⟨18, t, nu, p, tk, tn, r, u⟩) (Aq := (some ⟨g, o, none⟩)) (nq := 3) (cq := cap) (by assumption) hb)
    (first | (go_at_call 75; (with_reducible refine (HC0.out _ ?_).mono ?_); (go_split_ands; assumption); rintro e w' ⟨rfl, hb⟩) | (go_at_call 55; (with_reducible refine (HC1.out _ ?_).mono ?_); (go_split_ands; assumption); rintro e w' ⟨rfl, hb⟩))
  all_goals
    have HBE : Hid (Below w.heap.size w w') := Lib.hid (by go_split_ands; assumption)
    go_split_ands
    go_wp2_with (first | (go_at_call 118; (with_reducible refine (HC2.out _ HBE.out).mono ?_); rintro e V ⟨rfl, hb⟩; have HBE := Lib.hid (HBE.out.trans (hb.mono HBE.out.size)); clear hb))
    go_ret
    exact ⟨str_fin (by rw [HX0.out, HX1.out, HX2.out] <;> simp), HBE.out⟩
end Go.Proofs.YticbcnhbpbaocaaGreatDoor
