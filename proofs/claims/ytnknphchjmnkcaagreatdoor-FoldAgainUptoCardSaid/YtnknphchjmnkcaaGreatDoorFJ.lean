/-
  The walk of the specification's constant (package fold).
-/
import Derived.Test.YtnknphchjmnkcaaGreatDoorFF
set_option linter.all false
namespace Go.Proofs.YtnknphchjmnkcaaGreatDoor
open Go.RowKit T T.Fo
def RetT (v : Int) (b ok : Bool) (w : World) (e : Ending) (w' : World) : Prop := e = .returned (.tuple #[.int .i64 v, .bool b, .bool ok]) ∧ Below w.heap.size w w'
def RetK (c : Cv) (w : World) (e : Ending) (w' : World) : Prop := ∃ b, e = .returned (.tuple #[.int .i64 c.v, .bool b, .bool (c.k != 0)]) ∧ (c.k ≠ 0 → b = (c.k == 25)) ∧ Below w.heap.size w w'
theorem RetT.k {v : Int} {b ok : Bool} {c : Cv} {w : World} {e : Ending} {w' : World} (H : RetT v b ok w e w') (h1 : v = c.v) (h2 : ok = (c.k != 0)) (h3 : c.k ≠ 0 → b = (c.k == 25)) : RetK c w e w' := by
  subst h1 h2; exact ⟨b, H.1, h3, H.2⟩
/-- A child's answer at every later world. -/
def CoE (h : Hd) (A : Option Addr) (n cap : Nat) (w : World) (v : Int) (ok : Bool) : Prop := ∀ V, Below w.heap.size w V → Calls Tryz.prog 37 #[nv h A n cap] V fun e V' => ∃ b, e = .returned (.tuple #[.int .i64 v, .bool b, .bool ok]) ∧ Below V.heap.size V V'
def CoA (h : Hd) (A : Option Addr) (n cap : Nat) (w : World) (v : Int) (b ok : Bool) : Prop := ∀ V, Below w.heap.size w V → Calls Tryz.prog 37 #[nv h A n cap] V (RetT v b ok V)
set_option maxRecDepth 100000

theorem co_24 (t : ByteArray) (nu p tk : Int) (tn : ByteArray) (r u : Int) (A : Option Addr) (n cap : Nat) (w : World) : Calls Tryz.prog 37 #[nv ⟨24, t, nu, p, tk, tn, r, u⟩ A n cap] w (RetT nu false true w) := by
  go_enter Tryz.func37, Tryz.ntmps37
  go_wp2
  go_ret3
  exact ⟨rfl, fb1 _ _⟩

theorem co_25 (t : ByteArray) (nu p tk : Int) (tn : ByteArray) (r u : Int) (A : Option Addr) (n cap : Nat) (w : World) : Calls Tryz.prog 37 #[nv ⟨25, t, nu, p, tk, tn, r, u⟩ A n cap] w (RetT nu true true w) := by
  go_enter Tryz.func37, Tryz.ntmps37
  go_wp2
  go_ret3
  exact ⟨rfl, fb1 _ _⟩

theorem co_o (k : Int) (t : ByteArray) (nu p tk : Int) (tn : ByteArray) (r u : Int) (A : Option Addr) (n cap : Nat) (w : World) (e24 : (k == 24) = false) (e25 : (k == 25) = false) (e31 : (k == 31) = false) (e32 : (k == 32) = false) : Calls Tryz.prog 37 #[nv ⟨k, t, nu, p, tk, tn, r, u⟩ A n cap] w (RetT 0 false false w) := by
  go_enter Tryz.func37, Tryz.ntmps37
  go_wp2
  go_ret3
  exact ⟨rfl, fb1 _ _⟩

set_option maxHeartbeats 1000000 in
theorem co_31n (t : ByteArray) (nu p tk : Int) (tn : ByteArray) (r u : Int) (g o cap : Nat) (w : World) (kh : Hd) (A0 : Option Addr) (n0 c0 : Nat) (v : Int) (d : At9 w g o kh A0 n0 c0) (hg : g < w.heap.size) (HK : Hid (CoE kh A0 n0 c0 w v false)) : Calls Tryz.prog 37 #[nv ⟨31, t, nu, p, tk, tn, r, u⟩ (some ⟨g, o, none⟩) 1 cap] w (RetT 0 false false w) := by
  obtain ⟨d0, d1, d2, d3, d4, d5, d6, d7, d8⟩ := d
  have g1 : ¬ g = w.heap.size := by omega
  have g3 : g < w.heap.size + 1 := by omega
  have HB0 : Hid (Below w.heap.size w (w.alloc (.cells (nc ⟨31, t, nu, p, tk, tn, r, u⟩ (some ⟨g, o, none⟩) 1 cap) 26))) := Lib.hid (fb1 w _)
  go_enter Tryz.func37, Tryz.ntmps37
  go_wp2_with fail
  refine (HK.out _ HB0.out).mono ?_
  rintro e w1 ⟨is, rfl, hb1⟩
  obtain ⟨hc1, hf1⟩ := fbcell hb1
  have hz1 : w.heap.size < w1.heap.size := by have := hb1.size; simp at this; omega
  have HB1 := Lib.hid (HB0.out.trans (hb1.mono (by simp)))
  clear hb1
  go_wp2
  go_ret3
  exact ⟨rfl, HB1.out⟩

set_option maxHeartbeats 1000000 in
theorem co_31a (nu p tk : Int) (tn : ByteArray) (r u : Int) (g o cap : Nat) (w : World) (kh : Hd) (A0 : Option Addr) (n0 c0 : Nat) (v : Int) (d : At9 w g o kh A0 n0 c0) (hg : g < w.heap.size) (HK : Hid (CoA kh A0 n0 c0 w v false true)) : Calls Tryz.prog 37 #[nv ⟨31, ⟨#[45]⟩, nu, p, tk, tn, r, u⟩ (some ⟨g, o, none⟩) 1 cap] w (RetT (wrap64 (-v)) false true w) := by
  obtain ⟨d0, d1, d2, d3, d4, d5, d6, d7, d8⟩ := d
  have g1 : ¬ g = w.heap.size := by omega
  have g3 : g < w.heap.size + 1 := by omega
  have HB0 : Hid (Below w.heap.size w (w.alloc (.cells (nc ⟨31, ⟨#[45]⟩, nu, p, tk, tn, r, u⟩ (some ⟨g, o, none⟩) 1 cap) 26))) := Lib.hid (fb1 w _)
  go_enter Tryz.func37, Tryz.ntmps37
  go_wp2_with fail
  refine (HK.out _ HB0.out).mono ?_
  rintro e w1 ⟨rfl, hb1⟩
  obtain ⟨hc1, hf1⟩ := fbcell hb1
  have hz1 : w.heap.size < w1.heap.size := by have := hb1.size; simp at this; omega
  have HB1 := Lib.hid (HB0.out.trans (hb1.mono (by simp)))
  clear hb1
  go_wp2
  go_ret3
  exact ⟨rfl, HB1.out⟩

set_option maxHeartbeats 1000000 in
theorem co_31b (nu p tk : Int) (tn : ByteArray) (r u : Int) (g o cap : Nat) (w : World) (kh : Hd) (A0 : Option Addr) (n0 c0 : Nat) (v : Int) (d : At9 w g o kh A0 n0 c0) (hg : g < w.heap.size) (HK : Hid (CoA kh A0 n0 c0 w v true true)) : Calls Tryz.prog 37 #[nv ⟨31, ⟨#[45]⟩, nu, p, tk, tn, r, u⟩ (some ⟨g, o, none⟩) 1 cap] w (RetT 0 false false w) := by
  obtain ⟨d0, d1, d2, d3, d4, d5, d6, d7, d8⟩ := d
  have g1 : ¬ g = w.heap.size := by omega
  have g3 : g < w.heap.size + 1 := by omega
  have HB0 : Hid (Below w.heap.size w (w.alloc (.cells (nc ⟨31, ⟨#[45]⟩, nu, p, tk, tn, r, u⟩ (some ⟨g, o, none⟩) 1 cap) 26))) := Lib.hid (fb1 w _)
  go_enter Tryz.func37, Tryz.ntmps37
  go_wp2_with fail
  refine (HK.out _ HB0.out).mono ?_
  rintro e w1 ⟨rfl, hb1⟩
  obtain ⟨hc1, hf1⟩ := fbcell hb1
  have hz1 : w.heap.size < w1.heap.size := by have := hb1.size; simp at this; omega
  have HB1 := Lib.hid (HB0.out.trans (hb1.mono (by simp)))
  clear hb1
  go_wp2
  go_ret3
  exact ⟨rfl, HB1.out⟩

set_option maxHeartbeats 1000000 in
theorem co_31c (nu p tk : Int) (tn : ByteArray) (r u : Int) (g o cap : Nat) (w : World) (kh : Hd) (A0 : Option Addr) (n0 c0 : Nat) (v : Int) (d : At9 w g o kh A0 n0 c0) (hg : g < w.heap.size) (HK : Hid (CoA kh A0 n0 c0 w v true true)) : Calls Tryz.prog 37 #[nv ⟨31, ⟨#[33]⟩, nu, p, tk, tn, r, u⟩ (some ⟨g, o, none⟩) 1 cap] w (RetT (wrap64 (1 - v)) true true w) := by
  obtain ⟨d0, d1, d2, d3, d4, d5, d6, d7, d8⟩ := d
  have g1 : ¬ g = w.heap.size := by omega
  have g3 : g < w.heap.size + 1 := by omega
  have HB0 : Hid (Below w.heap.size w (w.alloc (.cells (nc ⟨31, ⟨#[33]⟩, nu, p, tk, tn, r, u⟩ (some ⟨g, o, none⟩) 1 cap) 26))) := Lib.hid (fb1 w _)
  go_enter Tryz.func37, Tryz.ntmps37
  go_wp2_with fail
  refine (HK.out _ HB0.out).mono ?_
  rintro e w1 ⟨rfl, hb1⟩
  obtain ⟨hc1, hf1⟩ := fbcell hb1
  have hz1 : w.heap.size < w1.heap.size := by have := hb1.size; simp at this; omega
  have HB1 := Lib.hid (HB0.out.trans (hb1.mono (by simp)))
  clear hb1
  go_wp2
  go_ret3
  exact ⟨rfl, HB1.out⟩

set_option maxHeartbeats 1000000 in
theorem co_31d (nu p tk : Int) (tn : ByteArray) (r u : Int) (g o cap : Nat) (w : World) (kh : Hd) (A0 : Option Addr) (n0 c0 : Nat) (v : Int) (d : At9 w g o kh A0 n0 c0) (hg : g < w.heap.size) (HK : Hid (CoA kh A0 n0 c0 w v false true)) : Calls Tryz.prog 37 #[nv ⟨31, ⟨#[33]⟩, nu, p, tk, tn, r, u⟩ (some ⟨g, o, none⟩) 1 cap] w (RetT 0 false false w) := by
  obtain ⟨d0, d1, d2, d3, d4, d5, d6, d7, d8⟩ := d
  have g1 : ¬ g = w.heap.size := by omega
  have g3 : g < w.heap.size + 1 := by omega
  have HB0 : Hid (Below w.heap.size w (w.alloc (.cells (nc ⟨31, ⟨#[33]⟩, nu, p, tk, tn, r, u⟩ (some ⟨g, o, none⟩) 1 cap) 26))) := Lib.hid (fb1 w _)
  go_enter Tryz.func37, Tryz.ntmps37
  go_wp2_with fail
  refine (HK.out _ HB0.out).mono ?_
  rintro e w1 ⟨rfl, hb1⟩
  obtain ⟨hc1, hf1⟩ := fbcell hb1
  have hz1 : w.heap.size < w1.heap.size := by have := hb1.size; simp at this; omega
  have HB1 := Lib.hid (HB0.out.trans (hb1.mono (by simp)))
  clear hb1
  go_wp2
  go_ret3
  exact ⟨rfl, HB1.out⟩

set_option maxHeartbeats 2000000 in
theorem co_32n1 (t : ByteArray) (nu p tk : Int) (tn : ByteArray) (r u : Int) (g o cap : Nat) (w : World) (kh : Hd) (A0 : Option Addr) (n0 c0 : Nat) (kh' : Hd) (A0' : Option Addr) (n0' c0' : Nat) (a b : Int) (also : Bool) (d : At9 w g o kh A0 n0 c0) (hg : g < w.heap.size) (HK : Hid (CoE kh A0 n0 c0 w a false)) (d' : At9 w g (o + 9) kh' A0' n0' c0') (HK' : Hid (CoE kh' A0' n0' c0' w b also)) : Calls Tryz.prog 37 #[nv ⟨32, t, nu, p, tk, tn, r, u⟩ (some ⟨g, o, none⟩) 2 cap] w (RetT 0 false false w) := by
  have HD := Lib.hid d'
  obtain ⟨d0, d1, d2, d3, d4, d5, d6, d7, d8⟩ := d
  have g1 : ¬ g = w.heap.size := by omega
  have g3 : g < w.heap.size + 1 := by omega
  have HB0 : Hid (Below w.heap.size w (w.alloc (.cells (nc ⟨32, t, nu, p, tk, tn, r, u⟩ (some ⟨g, o, none⟩) 2 cap) 26))) := Lib.hid (fb1 w _)
  clear d'
  go_enter Tryz.func37, Tryz.ntmps37
  go_wp2_with fail
  refine (HK.out _ HB0.out).mono ?_
  rintro e w1 ⟨x, rfl, hb1⟩
  obtain ⟨hc1, hf1⟩ := fbcell hb1
  have hz1 : w.heap.size < w1.heap.size := by have := hb1.size; simp at this; omega
  have HB1 := Lib.hid (HB0.out.trans (hb1.mono (by simp)))
  clear hb1 d0 d1 d2 d3 d4 d5 d6 d7 d8
  obtain ⟨d0, d1, d2, d3, d4, d5, d6, d7, d8⟩ := HD.out
  go_wp2_with fail
  refine (HK'.out _ HB1.out).mono ?_
  rintro e w2 ⟨y, rfl, hb2⟩
  obtain ⟨hc2, hf2⟩ := fbcell hb2
  have hz2 : w.heap.size < w2.heap.size := by have := hb2.size; omega
  have HB2 := Lib.hid (HB1.out.trans (hb2.mono (by omega)))
  clear hb2 d0 d1 d2 d3 d4 d5 d6 d7 d8
  go_wp2
  go_ret3
  exact ⟨rfl, HB2.out⟩

set_option maxHeartbeats 2000000 in
theorem co_32n2 (t : ByteArray) (nu p tk : Int) (tn : ByteArray) (r u : Int) (g o cap : Nat) (w : World) (kh : Hd) (A0 : Option Addr) (n0 c0 : Nat) (kh' : Hd) (A0' : Option Addr) (n0' c0' : Nat) (a b : Int) (d : At9 w g o kh A0 n0 c0) (hg : g < w.heap.size) (HK : Hid (CoE kh A0 n0 c0 w a true)) (d' : At9 w g (o + 9) kh' A0' n0' c0') (HK' : Hid (CoE kh' A0' n0' c0' w b false)) : Calls Tryz.prog 37 #[nv ⟨32, t, nu, p, tk, tn, r, u⟩ (some ⟨g, o, none⟩) 2 cap] w (RetT 0 false false w) := by
  have HD := Lib.hid d'
  obtain ⟨d0, d1, d2, d3, d4, d5, d6, d7, d8⟩ := d
  have g1 : ¬ g = w.heap.size := by omega
  have g3 : g < w.heap.size + 1 := by omega
  have HB0 : Hid (Below w.heap.size w (w.alloc (.cells (nc ⟨32, t, nu, p, tk, tn, r, u⟩ (some ⟨g, o, none⟩) 2 cap) 26))) := Lib.hid (fb1 w _)
  clear d'
  go_enter Tryz.func37, Tryz.ntmps37
  go_wp2_with fail
  refine (HK.out _ HB0.out).mono ?_
  rintro e w1 ⟨x, rfl, hb1⟩
  obtain ⟨hc1, hf1⟩ := fbcell hb1
  have hz1 : w.heap.size < w1.heap.size := by have := hb1.size; simp at this; omega
  have HB1 := Lib.hid (HB0.out.trans (hb1.mono (by simp)))
  clear hb1 d0 d1 d2 d3 d4 d5 d6 d7 d8
  obtain ⟨d0, d1, d2, d3, d4, d5, d6, d7, d8⟩ := HD.out
  go_wp2_with fail
  refine (HK'.out _ HB1.out).mono ?_
  rintro e w2 ⟨y, rfl, hb2⟩
  obtain ⟨hc2, hf2⟩ := fbcell hb2
  have hz2 : w.heap.size < w2.heap.size := by have := hb2.size; omega
  have HB2 := Lib.hid (HB1.out.trans (hb2.mono (by omega)))
  clear hb2 d0 d1 d2 d3 d4 d5 d6 d7 d8
  go_wp2
  go_ret3
  exact ⟨rfl, HB2.out⟩

set_option maxHeartbeats 2000000 in
theorem co_32n3 (t : ByteArray) (nu p tk : Int) (tn : ByteArray) (r u : Int) (g o cap : Nat) (w : World) (kh : Hd) (A0 : Option Addr) (n0 c0 : Nat) (kh' : Hd) (A0' : Option Addr) (n0' c0' : Nat) (a b : Int) (d : At9 w g o kh A0 n0 c0) (hg : g < w.heap.size) (HK : Hid (CoA kh A0 n0 c0 w a true true)) (d' : At9 w g (o + 9) kh' A0' n0' c0') (HK' : Hid (CoA kh' A0' n0' c0' w b false true)) : Calls Tryz.prog 37 #[nv ⟨32, t, nu, p, tk, tn, r, u⟩ (some ⟨g, o, none⟩) 2 cap] w (RetT 0 false false w) := by
  have HD := Lib.hid d'
  obtain ⟨d0, d1, d2, d3, d4, d5, d6, d7, d8⟩ := d
  have g1 : ¬ g = w.heap.size := by omega
  have g3 : g < w.heap.size + 1 := by omega
  have HB0 : Hid (Below w.heap.size w (w.alloc (.cells (nc ⟨32, t, nu, p, tk, tn, r, u⟩ (some ⟨g, o, none⟩) 2 cap) 26))) := Lib.hid (fb1 w _)
  clear d'
  go_enter Tryz.func37, Tryz.ntmps37
  go_wp2_with fail
  refine (HK.out _ HB0.out).mono ?_
  rintro e w1 ⟨rfl, hb1⟩
  obtain ⟨hc1, hf1⟩ := fbcell hb1
  have hz1 : w.heap.size < w1.heap.size := by have := hb1.size; simp at this; omega
  have HB1 := Lib.hid (HB0.out.trans (hb1.mono (by simp)))
  clear hb1 d0 d1 d2 d3 d4 d5 d6 d7 d8
  obtain ⟨d0, d1, d2, d3, d4, d5, d6, d7, d8⟩ := HD.out
  go_wp2_with fail
  refine (HK'.out _ HB1.out).mono ?_
  rintro e w2 ⟨rfl, hb2⟩
  obtain ⟨hc2, hf2⟩ := fbcell hb2
  have hz2 : w.heap.size < w2.heap.size := by have := hb2.size; omega
  have HB2 := Lib.hid (HB1.out.trans (hb2.mono (by omega)))
  clear hb2 d0 d1 d2 d3 d4 d5 d6 d7 d8
  go_wp2
  go_ret3
  exact ⟨rfl, HB2.out⟩

set_option maxHeartbeats 2000000 in
theorem co_32n4 (t : ByteArray) (nu p tk : Int) (tn : ByteArray) (r u : Int) (g o cap : Nat) (w : World) (kh : Hd) (A0 : Option Addr) (n0 c0 : Nat) (kh' : Hd) (A0' : Option Addr) (n0' c0' : Nat) (a b : Int) (d : At9 w g o kh A0 n0 c0) (hg : g < w.heap.size) (HK : Hid (CoA kh A0 n0 c0 w a false true)) (d' : At9 w g (o + 9) kh' A0' n0' c0') (HK' : Hid (CoA kh' A0' n0' c0' w b true true)) : Calls Tryz.prog 37 #[nv ⟨32, t, nu, p, tk, tn, r, u⟩ (some ⟨g, o, none⟩) 2 cap] w (RetT 0 false false w) := by
  have HD := Lib.hid d'
  obtain ⟨d0, d1, d2, d3, d4, d5, d6, d7, d8⟩ := d
  have g1 : ¬ g = w.heap.size := by omega
  have g3 : g < w.heap.size + 1 := by omega
  have HB0 : Hid (Below w.heap.size w (w.alloc (.cells (nc ⟨32, t, nu, p, tk, tn, r, u⟩ (some ⟨g, o, none⟩) 2 cap) 26))) := Lib.hid (fb1 w _)
  clear d'
  go_enter Tryz.func37, Tryz.ntmps37
  go_wp2_with fail
  refine (HK.out _ HB0.out).mono ?_
  rintro e w1 ⟨rfl, hb1⟩
  obtain ⟨hc1, hf1⟩ := fbcell hb1
  have hz1 : w.heap.size < w1.heap.size := by have := hb1.size; simp at this; omega
  have HB1 := Lib.hid (HB0.out.trans (hb1.mono (by simp)))
  clear hb1 d0 d1 d2 d3 d4 d5 d6 d7 d8
  obtain ⟨d0, d1, d2, d3, d4, d5, d6, d7, d8⟩ := HD.out
  go_wp2_with fail
  refine (HK'.out _ HB1.out).mono ?_
  rintro e w2 ⟨rfl, hb2⟩
  obtain ⟨hc2, hf2⟩ := fbcell hb2
  have hz2 : w.heap.size < w2.heap.size := by have := hb2.size; omega
  have HB2 := Lib.hid (HB1.out.trans (hb2.mono (by omega)))
  clear hb2 d0 d1 d2 d3 d4 d5 d6 d7 d8
  go_wp2
  go_ret3
  exact ⟨rfl, HB2.out⟩

set_option maxHeartbeats 2000000 in
theorem co_32l (t : ByteArray) (nu p tk : Int) (tn : ByteArray) (r u : Int) (g o cap : Nat) (w : World) (kh : Hd) (A0 : Option Addr) (n0 c0 : Nat) (kh' : Hd) (A0' : Option Addr) (n0' c0' : Nat) (a b : Int) (c : Cv) (d : At9 w g o kh A0 n0 c0) (hg : g < w.heap.size) (HK : Hid (CoA kh A0 n0 c0 w a true true)) (d' : At9 w g (o + 9) kh' A0' n0' c0') (HK' : Hid (CoA kh' A0' n0' c0' w b true true)) (HL : Hid (∀ V, Calls Tryz.prog 63 #[.string t, .int .i64 a, .int .i64 b] V (Ret2 c.v (c.k != 0) V))) : Calls Tryz.prog 37 #[nv ⟨32, t, nu, p, tk, tn, r, u⟩ (some ⟨g, o, none⟩) 2 cap] w (RetT c.v true (c.k != 0) w) := by
  have HD := Lib.hid d'
  obtain ⟨d0, d1, d2, d3, d4, d5, d6, d7, d8⟩ := d
  have g1 : ¬ g = w.heap.size := by omega
  have g3 : g < w.heap.size + 1 := by omega
  have HB0 : Hid (Below w.heap.size w (w.alloc (.cells (nc ⟨32, t, nu, p, tk, tn, r, u⟩ (some ⟨g, o, none⟩) 2 cap) 26))) := Lib.hid (fb1 w _)
  clear d'
  go_enter Tryz.func37, Tryz.ntmps37
  go_wp2_with fail
  refine (HK.out _ HB0.out).mono ?_
  rintro e w1 ⟨rfl, hb1⟩
  obtain ⟨hc1, hf1⟩ := fbcell hb1
  have hz1 : w.heap.size < w1.heap.size := by have := hb1.size; simp at this; omega
  have HB1 := Lib.hid (HB0.out.trans (hb1.mono (by simp)))
  clear hb1 d0 d1 d2 d3 d4 d5 d6 d7 d8
  obtain ⟨d0, d1, d2, d3, d4, d5, d6, d7, d8⟩ := HD.out
  go_wp2_with fail
  refine (HK'.out _ HB1.out).mono ?_
  rintro e w2 ⟨rfl, hb2⟩
  obtain ⟨hc2, hf2⟩ := fbcell hb2
  have hz2 : w.heap.size < w2.heap.size := by have := hb2.size; omega
  have HB2 := Lib.hid (HB1.out.trans (hb2.mono (by omega)))
  clear hb2 d0 d1 d2 d3 d4 d5 d6 d7 d8
  go_wp2_with (go_at_call 63; (with_reducible refine (HL.out _).mono ?_); rintro e w3 ⟨rfl, rfl⟩)
  go_ret3
  exact ⟨rfl, HB2.out⟩

set_option maxHeartbeats 2000000 in
theorem co_32r (t : ByteArray) (nu p tk : Int) (tn : ByteArray) (r u : Int) (g o cap : Nat) (w : World) (kh : Hd) (A0 : Option Addr) (n0 c0 : Nat) (kh' : Hd) (A0' : Option Addr) (n0' c0' : Nat) (a b : Int) (c : Cv) (d : At9 w g o kh A0 n0 c0) (hg : g < w.heap.size) (HK : Hid (CoA kh A0 n0 c0 w a false true)) (d' : At9 w g (o + 9) kh' A0' n0' c0') (HK' : Hid (CoA kh' A0' n0' c0' w b false true)) (HL : Hid (∀ V, Calls Tryz.prog 64 #[.string t, .int .i64 a, .int .i64 b] V (Ret3 c.v (c.k == 25) (c.k != 0) V))) : Calls Tryz.prog 37 #[nv ⟨32, t, nu, p, tk, tn, r, u⟩ (some ⟨g, o, none⟩) 2 cap] w (RetT c.v (c.k == 25) (c.k != 0) w) := by
  have HD := Lib.hid d'
  obtain ⟨d0, d1, d2, d3, d4, d5, d6, d7, d8⟩ := d
  have g1 : ¬ g = w.heap.size := by omega
  have g3 : g < w.heap.size + 1 := by omega
  have HB0 : Hid (Below w.heap.size w (w.alloc (.cells (nc ⟨32, t, nu, p, tk, tn, r, u⟩ (some ⟨g, o, none⟩) 2 cap) 26))) := Lib.hid (fb1 w _)
  clear d'
  go_enter Tryz.func37, Tryz.ntmps37
  go_wp2_with fail
  refine (HK.out _ HB0.out).mono ?_
  rintro e w1 ⟨rfl, hb1⟩
  obtain ⟨hc1, hf1⟩ := fbcell hb1
  have hz1 : w.heap.size < w1.heap.size := by have := hb1.size; simp at this; omega
  have HB1 := Lib.hid (HB0.out.trans (hb1.mono (by simp)))
  clear hb1 d0 d1 d2 d3 d4 d5 d6 d7 d8
  obtain ⟨d0, d1, d2, d3, d4, d5, d6, d7, d8⟩ := HD.out
  go_wp2_with fail
  refine (HK'.out _ HB1.out).mono ?_
  rintro e w2 ⟨rfl, hb2⟩
  obtain ⟨hc2, hf2⟩ := fbcell hb2
  have hz2 : w.heap.size < w2.heap.size := by have := hb2.size; omega
  have HB2 := Lib.hid (HB1.out.trans (hb2.mono (by omega)))
  clear hb2 d0 d1 d2 d3 d4 d5 d6 d7 d8
  go_wp2_with (go_at_call 64; (with_reducible refine (HL.out _).mono ?_); rintro e w3 ⟨rfl, rfl⟩)
  go_ret3
  exact ⟨rfl, HB2.out⟩

/-- The contract at a tree that is permitted. -/
def CoP (nm : ByteArray → Bool) (h : Hd) (F : Fo) : Prop := okT nm h F = true → rgH h → F.AllH rgH → ∀ (A : Option Addr) (cap : Nat) (w : World), Kids (Lt w.heap.size) w A F → Calls Tryz.prog 37 #[nv h A F.len cap] w (RetK (evT h F) w)
theorem CoP.at_ {nm : ByteArray → Bool} {h : Hd} {F : Fo} (H : CoP nm h F) (h1 : okT nm h F = true) (h2 : rgH h) (h3 : F.AllH rgH) {A : Option Addr} {cap : Nat} {w : World} (hk : Kids (Lt w.heap.size) w A F) : ∀ V, Below w.heap.size w V → Calls Tryz.prog 37 #[nv h A F.len cap] V (RetK (evT h F) V) := fun V hV => H h1 h2 h3 A cap V (kidsV hk hV)
end Go.Proofs.YtnknphchjmnkcaaGreatDoor
