/-
  The walk of function.
-/
import Derived.Test.YticbcnhbpbaocaaGreatDoorQC
import Derived.Deep.RegionHeld3
import Derived.Deep.DeepCutAuto

set_option linter.all false
namespace Go.Proofs.YticbcnhbpbaocaaGreatDoor
open Go.RowKit T T.Fo
set_option linter.all false

theorem c_dr (w : World) (p : Addr) : w.drew.cell? p = w.cell? p := rfl
theorem h_dr (w : World) : w.drew.heap.size = w.heap.size := rfl
theorem c_x {w : World} {o : Obj} {b i : Nat} {v : Value} (hb : b < w.heap.size) (h : w.cell? ⟨b, i, none⟩ = some v) : (w.alloc o).cell? ⟨b, i, none⟩ = some v :=
  (Below.cell (p := ⟨b, i, none⟩) ((Below.refl w.heap.size w).alloc (Nat.le_refl _) o) hb).trans h
theorem l_x {w : World} {o : Obj} {b : Nat} (hb : b < w.heap.size) : b < (w.alloc o).heap.size := by rw [World.size_alloc]; omega
theorem c_a0 {w : World} {b i : Nat} {v : Value} (hb : b < w.heap.size) (h : w.cell? ⟨b, i, none⟩ = some v) : w.drew.cell? ⟨b, i, none⟩ = some v := (c_dr _ _).trans h
theorem l_a0 {w : World} {b : Nat} (hb : b < w.heap.size) : b < w.drew.heap.size := by rw [h_dr]; exact hb
theorem c_a1 {w : World} {o_0 : Obj} {b i : Nat} {v : Value} (hb : b < w.heap.size) (h : w.cell? ⟨b, i, none⟩ = some v) : (w.alloc o_0).drew.cell? ⟨b, i, none⟩ = some v := (c_dr _ _).trans (c_x hb h)
theorem l_a1 {w : World} {o_0 : Obj} {b : Nat} (hb : b < w.heap.size) : b < (w.alloc o_0).drew.heap.size := by rw [h_dr]; exact (l_x hb)
theorem c_a2 {w : World} {o_0 o_1 : Obj} {b i : Nat} {v : Value} (hb : b < w.heap.size) (h : w.cell? ⟨b, i, none⟩ = some v) : ((w.alloc o_0).alloc o_1).drew.cell? ⟨b, i, none⟩ = some v := (c_dr _ _).trans (c_x (l_x hb) (c_x hb h))
theorem l_a2 {w : World} {o_0 o_1 : Obj} {b : Nat} (hb : b < w.heap.size) : b < ((w.alloc o_0).alloc o_1).drew.heap.size := by rw [h_dr]; exact (l_x (l_x hb))
theorem c_a3 {w : World} {o_0 o_1 o_2 : Obj} {b i : Nat} {v : Value} (hb : b < w.heap.size) (h : w.cell? ⟨b, i, none⟩ = some v) : (((w.alloc o_0).alloc o_1).alloc o_2).drew.cell? ⟨b, i, none⟩ = some v := (c_dr _ _).trans (c_x (l_x (l_x hb)) (c_x (l_x hb) (c_x hb h)))
theorem l_a3 {w : World} {o_0 o_1 o_2 : Obj} {b : Nat} (hb : b < w.heap.size) : b < (((w.alloc o_0).alloc o_1).alloc o_2).drew.heap.size := by rw [h_dr]; exact (l_x (l_x (l_x hb)))
/-- The cells that a region reads. -/
def SF (q g o : Nat) (u0 u1 u2 u3 u4 u5 u6 u7 u8 u9 u10 u11 u12 u13 u14 u15 u16 u17 u18 u19 u20 u21 u22 u23 u24 u25 u26 u27 : Value) (w : World) : Prop :=
  q < w.heap.size ∧ g < w.heap.size ∧ w.cell? ⟨q, 4, none⟩ = some (u0) ∧ w.cell? ⟨g, o, none⟩ = some (u1) ∧ w.cell? ⟨g, o + 1, none⟩ = some (u2) ∧ w.cell? ⟨g, o + 2, none⟩ = some (u3) ∧ w.cell? ⟨g, o + 3, none⟩ = some (u4) ∧ w.cell? ⟨g, o + 4, none⟩ = some (u5) ∧ w.cell? ⟨g, o + 5, none⟩ = some (u6) ∧ w.cell? ⟨g, o + 6, none⟩ = some (u7) ∧ w.cell? ⟨g, o + 7, none⟩ = some (u8) ∧ w.cell? ⟨g, o + 8, none⟩ = some (u9) ∧ w.cell? ⟨g, o + 9, none⟩ = some (u10) ∧ w.cell? ⟨g, o + 10, none⟩ = some (u11) ∧ w.cell? ⟨g, o + 11, none⟩ = some (u12) ∧ w.cell? ⟨g, o + 12, none⟩ = some (u13) ∧ w.cell? ⟨g, o + 13, none⟩ = some (u14) ∧ w.cell? ⟨g, o + 14, none⟩ = some (u15) ∧ w.cell? ⟨g, o + 15, none⟩ = some (u16) ∧ w.cell? ⟨g, o + 16, none⟩ = some (u17) ∧ w.cell? ⟨g, o + 17, none⟩ = some (u18) ∧ w.cell? ⟨g, o + 18, none⟩ = some (u19) ∧ w.cell? ⟨g, o + 19, none⟩ = some (u20) ∧ w.cell? ⟨g, o + 20, none⟩ = some (u21) ∧ w.cell? ⟨g, o + 21, none⟩ = some (u22) ∧ w.cell? ⟨g, o + 22, none⟩ = some (u23) ∧ w.cell? ⟨g, o + 23, none⟩ = some (u24) ∧ w.cell? ⟨g, o + 24, none⟩ = some (u25) ∧ w.cell? ⟨g, o + 25, none⟩ = some (u26) ∧ w.cell? ⟨g, o + 26, none⟩ = some (u27)
theorem SF.al0 {q g o : Nat} {u0 u1 u2 u3 u4 u5 u6 u7 u8 u9 u10 u11 u12 u13 u14 u15 u16 u17 u18 u19 u20 u21 u22 u23 u24 u25 u26 u27 : Value} {w : World} (h : SF q g o u0 u1 u2 u3 u4 u5 u6 u7 u8 u9 u10 u11 u12 u13 u14 u15 u16 u17 u18 u19 u20 u21 u22 u23 u24 u25 u26 u27 w) : q < w.drew.heap.size ∧ g < w.drew.heap.size ∧ w.drew.cell? ⟨q, 4, none⟩ = some (u0) ∧ w.drew.cell? ⟨g, o, none⟩ = some (u1) ∧ w.drew.cell? ⟨g, o + 1, none⟩ = some (u2) ∧ w.drew.cell? ⟨g, o + 2, none⟩ = some (u3) ∧ w.drew.cell? ⟨g, o + 3, none⟩ = some (u4) ∧ w.drew.cell? ⟨g, o + 4, none⟩ = some (u5) ∧ w.drew.cell? ⟨g, o + 5, none⟩ = some (u6) ∧ w.drew.cell? ⟨g, o + 6, none⟩ = some (u7) ∧ w.drew.cell? ⟨g, o + 7, none⟩ = some (u8) ∧ w.drew.cell? ⟨g, o + 8, none⟩ = some (u9) ∧ w.drew.cell? ⟨g, o + 9, none⟩ = some (u10) ∧ w.drew.cell? ⟨g, o + 10, none⟩ = some (u11) ∧ w.drew.cell? ⟨g, o + 11, none⟩ = some (u12) ∧ w.drew.cell? ⟨g, o + 12, none⟩ = some (u13) ∧ w.drew.cell? ⟨g, o + 13, none⟩ = some (u14) ∧ w.drew.cell? ⟨g, o + 14, none⟩ = some (u15) ∧ w.drew.cell? ⟨g, o + 15, none⟩ = some (u16) ∧ w.drew.cell? ⟨g, o + 16, none⟩ = some (u17) ∧ w.drew.cell? ⟨g, o + 17, none⟩ = some (u18) ∧ w.drew.cell? ⟨g, o + 18, none⟩ = some (u19) ∧ w.drew.cell? ⟨g, o + 19, none⟩ = some (u20) ∧ w.drew.cell? ⟨g, o + 20, none⟩ = some (u21) ∧ w.drew.cell? ⟨g, o + 21, none⟩ = some (u22) ∧ w.drew.cell? ⟨g, o + 22, none⟩ = some (u23) ∧ w.drew.cell? ⟨g, o + 23, none⟩ = some (u24) ∧ w.drew.cell? ⟨g, o + 24, none⟩ = some (u25) ∧ w.drew.cell? ⟨g, o + 25, none⟩ = some (u26) ∧ w.drew.cell? ⟨g, o + 26, none⟩ = some (u27) := by
  obtain ⟨a0, a1, c0, c1, c2, c3, c4, c5, c6, c7, c8, c9, c10, c11, c12, c13, c14, c15, c16, c17, c18, c19, c20, c21, c22, c23, c24, c25, c26, c27⟩ := h
  exact ⟨l_a0 a0, l_a0 a1, c_a0 a0 c0, c_a0 a1 c1, c_a0 a1 c2, c_a0 a1 c3, c_a0 a1 c4, c_a0 a1 c5, c_a0 a1 c6, c_a0 a1 c7, c_a0 a1 c8, c_a0 a1 c9, c_a0 a1 c10, c_a0 a1 c11, c_a0 a1 c12, c_a0 a1 c13, c_a0 a1 c14, c_a0 a1 c15, c_a0 a1 c16, c_a0 a1 c17, c_a0 a1 c18, c_a0 a1 c19, c_a0 a1 c20, c_a0 a1 c21, c_a0 a1 c22, c_a0 a1 c23, c_a0 a1 c24, c_a0 a1 c25, c_a0 a1 c26, c_a0 a1 c27⟩
theorem SF.al1 {q g o : Nat} {u0 u1 u2 u3 u4 u5 u6 u7 u8 u9 u10 u11 u12 u13 u14 u15 u16 u17 u18 u19 u20 u21 u22 u23 u24 u25 u26 u27 : Value} {w : World} (h : SF q g o u0 u1 u2 u3 u4 u5 u6 u7 u8 u9 u10 u11 u12 u13 u14 u15 u16 u17 u18 u19 u20 u21 u22 u23 u24 u25 u26 u27 w) (o_0 : Obj) : q < (w.alloc o_0).drew.heap.size ∧ g < (w.alloc o_0).drew.heap.size ∧ (w.alloc o_0).drew.cell? ⟨q, 4, none⟩ = some (u0) ∧ (w.alloc o_0).drew.cell? ⟨g, o, none⟩ = some (u1) ∧ (w.alloc o_0).drew.cell? ⟨g, o + 1, none⟩ = some (u2) ∧ (w.alloc o_0).drew.cell? ⟨g, o + 2, none⟩ = some (u3) ∧ (w.alloc o_0).drew.cell? ⟨g, o + 3, none⟩ = some (u4) ∧ (w.alloc o_0).drew.cell? ⟨g, o + 4, none⟩ = some (u5) ∧ (w.alloc o_0).drew.cell? ⟨g, o + 5, none⟩ = some (u6) ∧ (w.alloc o_0).drew.cell? ⟨g, o + 6, none⟩ = some (u7) ∧ (w.alloc o_0).drew.cell? ⟨g, o + 7, none⟩ = some (u8) ∧ (w.alloc o_0).drew.cell? ⟨g, o + 8, none⟩ = some (u9) ∧ (w.alloc o_0).drew.cell? ⟨g, o + 9, none⟩ = some (u10) ∧ (w.alloc o_0).drew.cell? ⟨g, o + 10, none⟩ = some (u11) ∧ (w.alloc o_0).drew.cell? ⟨g, o + 11, none⟩ = some (u12) ∧ (w.alloc o_0).drew.cell? ⟨g, o + 12, none⟩ = some (u13) ∧ (w.alloc o_0).drew.cell? ⟨g, o + 13, none⟩ = some (u14) ∧ (w.alloc o_0).drew.cell? ⟨g, o + 14, none⟩ = some (u15) ∧ (w.alloc o_0).drew.cell? ⟨g, o + 15, none⟩ = some (u16) ∧ (w.alloc o_0).drew.cell? ⟨g, o + 16, none⟩ = some (u17) ∧ (w.alloc o_0).drew.cell? ⟨g, o + 17, none⟩ = some (u18) ∧ (w.alloc o_0).drew.cell? ⟨g, o + 18, none⟩ = some (u19) ∧ (w.alloc o_0).drew.cell? ⟨g, o + 19, none⟩ = some (u20) ∧ (w.alloc o_0).drew.cell? ⟨g, o + 20, none⟩ = some (u21) ∧ (w.alloc o_0).drew.cell? ⟨g, o + 21, none⟩ = some (u22) ∧ (w.alloc o_0).drew.cell? ⟨g, o + 22, none⟩ = some (u23) ∧ (w.alloc o_0).drew.cell? ⟨g, o + 23, none⟩ = some (u24) ∧ (w.alloc o_0).drew.cell? ⟨g, o + 24, none⟩ = some (u25) ∧ (w.alloc o_0).drew.cell? ⟨g, o + 25, none⟩ = some (u26) ∧ (w.alloc o_0).drew.cell? ⟨g, o + 26, none⟩ = some (u27) := by
  obtain ⟨a0, a1, c0, c1, c2, c3, c4, c5, c6, c7, c8, c9, c10, c11, c12, c13, c14, c15, c16, c17, c18, c19, c20, c21, c22, c23, c24, c25, c26, c27⟩ := h
  exact ⟨l_a1 a0, l_a1 a1, c_a1 a0 c0, c_a1 a1 c1, c_a1 a1 c2, c_a1 a1 c3, c_a1 a1 c4, c_a1 a1 c5, c_a1 a1 c6, c_a1 a1 c7, c_a1 a1 c8, c_a1 a1 c9, c_a1 a1 c10, c_a1 a1 c11, c_a1 a1 c12, c_a1 a1 c13, c_a1 a1 c14, c_a1 a1 c15, c_a1 a1 c16, c_a1 a1 c17, c_a1 a1 c18, c_a1 a1 c19, c_a1 a1 c20, c_a1 a1 c21, c_a1 a1 c22, c_a1 a1 c23, c_a1 a1 c24, c_a1 a1 c25, c_a1 a1 c26, c_a1 a1 c27⟩
theorem SF.al2 {q g o : Nat} {u0 u1 u2 u3 u4 u5 u6 u7 u8 u9 u10 u11 u12 u13 u14 u15 u16 u17 u18 u19 u20 u21 u22 u23 u24 u25 u26 u27 : Value} {w : World} (h : SF q g o u0 u1 u2 u3 u4 u5 u6 u7 u8 u9 u10 u11 u12 u13 u14 u15 u16 u17 u18 u19 u20 u21 u22 u23 u24 u25 u26 u27 w) (o_0 o_1 : Obj) : q < ((w.alloc o_0).alloc o_1).drew.heap.size ∧ g < ((w.alloc o_0).alloc o_1).drew.heap.size ∧ ((w.alloc o_0).alloc o_1).drew.cell? ⟨q, 4, none⟩ = some (u0) ∧ ((w.alloc o_0).alloc o_1).drew.cell? ⟨g, o, none⟩ = some (u1) ∧ ((w.alloc o_0).alloc o_1).drew.cell? ⟨g, o + 1, none⟩ = some (u2) ∧ ((w.alloc o_0).alloc o_1).drew.cell? ⟨g, o + 2, none⟩ = some (u3) ∧ ((w.alloc o_0).alloc o_1).drew.cell? ⟨g, o + 3, none⟩ = some (u4) ∧ ((w.alloc o_0).alloc o_1).drew.cell? ⟨g, o + 4, none⟩ = some (u5) ∧ ((w.alloc o_0).alloc o_1).drew.cell? ⟨g, o + 5, none⟩ = some (u6) ∧ ((w.alloc o_0).alloc o_1).drew.cell? ⟨g, o + 6, none⟩ = some (u7) ∧ ((w.alloc o_0).alloc o_1).drew.cell? ⟨g, o + 7, none⟩ = some (u8) ∧ ((w.alloc o_0).alloc o_1).drew.cell? ⟨g, o + 8, none⟩ = some (u9) ∧ ((w.alloc o_0).alloc o_1).drew.cell? ⟨g, o + 9, none⟩ = some (u10) ∧ ((w.alloc o_0).alloc o_1).drew.cell? ⟨g, o + 10, none⟩ = some (u11) ∧ ((w.alloc o_0).alloc o_1).drew.cell? ⟨g, o + 11, none⟩ = some (u12) ∧ ((w.alloc o_0).alloc o_1).drew.cell? ⟨g, o + 12, none⟩ = some (u13) ∧ ((w.alloc o_0).alloc o_1).drew.cell? ⟨g, o + 13, none⟩ = some (u14) ∧ ((w.alloc o_0).alloc o_1).drew.cell? ⟨g, o + 14, none⟩ = some (u15) ∧ ((w.alloc o_0).alloc o_1).drew.cell? ⟨g, o + 15, none⟩ = some (u16) ∧ ((w.alloc o_0).alloc o_1).drew.cell? ⟨g, o + 16, none⟩ = some (u17) ∧ ((w.alloc o_0).alloc o_1).drew.cell? ⟨g, o + 17, none⟩ = some (u18) ∧ ((w.alloc o_0).alloc o_1).drew.cell? ⟨g, o + 18, none⟩ = some (u19) ∧ ((w.alloc o_0).alloc o_1).drew.cell? ⟨g, o + 19, none⟩ = some (u20) ∧ ((w.alloc o_0).alloc o_1).drew.cell? ⟨g, o + 20, none⟩ = some (u21) ∧ ((w.alloc o_0).alloc o_1).drew.cell? ⟨g, o + 21, none⟩ = some (u22) ∧ ((w.alloc o_0).alloc o_1).drew.cell? ⟨g, o + 22, none⟩ = some (u23) ∧ ((w.alloc o_0).alloc o_1).drew.cell? ⟨g, o + 23, none⟩ = some (u24) ∧ ((w.alloc o_0).alloc o_1).drew.cell? ⟨g, o + 24, none⟩ = some (u25) ∧ ((w.alloc o_0).alloc o_1).drew.cell? ⟨g, o + 25, none⟩ = some (u26) ∧ ((w.alloc o_0).alloc o_1).drew.cell? ⟨g, o + 26, none⟩ = some (u27) := by
  obtain ⟨a0, a1, c0, c1, c2, c3, c4, c5, c6, c7, c8, c9, c10, c11, c12, c13, c14, c15, c16, c17, c18, c19, c20, c21, c22, c23, c24, c25, c26, c27⟩ := h
  exact ⟨l_a2 a0, l_a2 a1, c_a2 a0 c0, c_a2 a1 c1, c_a2 a1 c2, c_a2 a1 c3, c_a2 a1 c4, c_a2 a1 c5, c_a2 a1 c6, c_a2 a1 c7, c_a2 a1 c8, c_a2 a1 c9, c_a2 a1 c10, c_a2 a1 c11, c_a2 a1 c12, c_a2 a1 c13, c_a2 a1 c14, c_a2 a1 c15, c_a2 a1 c16, c_a2 a1 c17, c_a2 a1 c18, c_a2 a1 c19, c_a2 a1 c20, c_a2 a1 c21, c_a2 a1 c22, c_a2 a1 c23, c_a2 a1 c24, c_a2 a1 c25, c_a2 a1 c26, c_a2 a1 c27⟩
theorem SF.al3 {q g o : Nat} {u0 u1 u2 u3 u4 u5 u6 u7 u8 u9 u10 u11 u12 u13 u14 u15 u16 u17 u18 u19 u20 u21 u22 u23 u24 u25 u26 u27 : Value} {w : World} (h : SF q g o u0 u1 u2 u3 u4 u5 u6 u7 u8 u9 u10 u11 u12 u13 u14 u15 u16 u17 u18 u19 u20 u21 u22 u23 u24 u25 u26 u27 w) (o_0 o_1 o_2 : Obj) : q < (((w.alloc o_0).alloc o_1).alloc o_2).drew.heap.size ∧ g < (((w.alloc o_0).alloc o_1).alloc o_2).drew.heap.size ∧ (((w.alloc o_0).alloc o_1).alloc o_2).drew.cell? ⟨q, 4, none⟩ = some (u0) ∧ (((w.alloc o_0).alloc o_1).alloc o_2).drew.cell? ⟨g, o, none⟩ = some (u1) ∧ (((w.alloc o_0).alloc o_1).alloc o_2).drew.cell? ⟨g, o + 1, none⟩ = some (u2) ∧ (((w.alloc o_0).alloc o_1).alloc o_2).drew.cell? ⟨g, o + 2, none⟩ = some (u3) ∧ (((w.alloc o_0).alloc o_1).alloc o_2).drew.cell? ⟨g, o + 3, none⟩ = some (u4) ∧ (((w.alloc o_0).alloc o_1).alloc o_2).drew.cell? ⟨g, o + 4, none⟩ = some (u5) ∧ (((w.alloc o_0).alloc o_1).alloc o_2).drew.cell? ⟨g, o + 5, none⟩ = some (u6) ∧ (((w.alloc o_0).alloc o_1).alloc o_2).drew.cell? ⟨g, o + 6, none⟩ = some (u7) ∧ (((w.alloc o_0).alloc o_1).alloc o_2).drew.cell? ⟨g, o + 7, none⟩ = some (u8) ∧ (((w.alloc o_0).alloc o_1).alloc o_2).drew.cell? ⟨g, o + 8, none⟩ = some (u9) ∧ (((w.alloc o_0).alloc o_1).alloc o_2).drew.cell? ⟨g, o + 9, none⟩ = some (u10) ∧ (((w.alloc o_0).alloc o_1).alloc o_2).drew.cell? ⟨g, o + 10, none⟩ = some (u11) ∧ (((w.alloc o_0).alloc o_1).alloc o_2).drew.cell? ⟨g, o + 11, none⟩ = some (u12) ∧ (((w.alloc o_0).alloc o_1).alloc o_2).drew.cell? ⟨g, o + 12, none⟩ = some (u13) ∧ (((w.alloc o_0).alloc o_1).alloc o_2).drew.cell? ⟨g, o + 13, none⟩ = some (u14) ∧ (((w.alloc o_0).alloc o_1).alloc o_2).drew.cell? ⟨g, o + 14, none⟩ = some (u15) ∧ (((w.alloc o_0).alloc o_1).alloc o_2).drew.cell? ⟨g, o + 15, none⟩ = some (u16) ∧ (((w.alloc o_0).alloc o_1).alloc o_2).drew.cell? ⟨g, o + 16, none⟩ = some (u17) ∧ (((w.alloc o_0).alloc o_1).alloc o_2).drew.cell? ⟨g, o + 17, none⟩ = some (u18) ∧ (((w.alloc o_0).alloc o_1).alloc o_2).drew.cell? ⟨g, o + 18, none⟩ = some (u19) ∧ (((w.alloc o_0).alloc o_1).alloc o_2).drew.cell? ⟨g, o + 19, none⟩ = some (u20) ∧ (((w.alloc o_0).alloc o_1).alloc o_2).drew.cell? ⟨g, o + 20, none⟩ = some (u21) ∧ (((w.alloc o_0).alloc o_1).alloc o_2).drew.cell? ⟨g, o + 21, none⟩ = some (u22) ∧ (((w.alloc o_0).alloc o_1).alloc o_2).drew.cell? ⟨g, o + 22, none⟩ = some (u23) ∧ (((w.alloc o_0).alloc o_1).alloc o_2).drew.cell? ⟨g, o + 23, none⟩ = some (u24) ∧ (((w.alloc o_0).alloc o_1).alloc o_2).drew.cell? ⟨g, o + 24, none⟩ = some (u25) ∧ (((w.alloc o_0).alloc o_1).alloc o_2).drew.cell? ⟨g, o + 25, none⟩ = some (u26) ∧ (((w.alloc o_0).alloc o_1).alloc o_2).drew.cell? ⟨g, o + 26, none⟩ = some (u27) := by
  obtain ⟨a0, a1, c0, c1, c2, c3, c4, c5, c6, c7, c8, c9, c10, c11, c12, c13, c14, c15, c16, c17, c18, c19, c20, c21, c22, c23, c24, c25, c26, c27⟩ := h
  exact ⟨l_a3 a0, l_a3 a1, c_a3 a0 c0, c_a3 a1 c1, c_a3 a1 c2, c_a3 a1 c3, c_a3 a1 c4, c_a3 a1 c5, c_a3 a1 c6, c_a3 a1 c7, c_a3 a1 c8, c_a3 a1 c9, c_a3 a1 c10, c_a3 a1 c11, c_a3 a1 c12, c_a3 a1 c13, c_a3 a1 c14, c_a3 a1 c15, c_a3 a1 c16, c_a3 a1 c17, c_a3 a1 c18, c_a3 a1 c19, c_a3 a1 c20, c_a3 a1 c21, c_a3 a1 c22, c_a3 a1 c23, c_a3 a1 c24, c_a3 a1 c25, c_a3 a1 c26, c_a3 a1 c27⟩
theorem nb_1 {W : World} {y z : Obj} (h : Hd) (A : Option Addr) (n cap : Nat) : Nb (((W.alloc (bx h A n cap)).alloc y).alloc z).drew W.heap.size h A n cap :=
  (Nb.new W h A n cap).below (Below.drew (((Below.refl _ _).alloc (Nat.le_refl _) _).alloc (by simp) _))
theorem nb_2 {W : World} {x z : Obj} (h : Hd) (A : Option Addr) (n cap : Nat) : Nb (((W.alloc x).alloc (bx h A n cap)).alloc z).drew (W.heap.size + 1) h A n cap := by
  have := (Nb.new (W.alloc x) h A n cap).below (Below.drew ((Below.refl _ _).alloc (Nat.le_refl _) z))
  rw [World.size_alloc] at this
  exact this
theorem nb_3 {W : World} {x y : Obj} (h : Hd) (A : Option Addr) (n cap : Nat) : Nb (((W.alloc x).alloc y).alloc (bx h A n cap)).drew (W.heap.size + 1 + 1) h A n cap := by
  have := Nb.new ((W.alloc x).alloc y) h A n cap
  rw [World.size_alloc, World.size_alloc] at this
  exact this
set_option maxRecDepth 100000 in
set_option maxHeartbeats 8000000 in
theorem function_no {W : World} {B b : Nat} {d : Int} (h h0 h1 h2 : Hd) (k0 k1 k2 : Fo) (τ : Hd → Fo → Bs) (t2 : Bs) (P0 : k0.All fun h k => PrnT 71 h k (τ h k) d B b W) (hm0 : k0.cnt ≤ 1048576) (P2 : PrnT 99 h2 k2 t2 d B b W) (h9 : (h1.kind == 9) = true) :
    PrnT 73 h (.cons h0 k0 (.cons h1 k1 (.cons h2 k2 .nil))) ([102, 117, 110, 99, 32] ++ h.text.data.toList ++ [40] ++ joinC (mapF τ k0) ++ [41, 32] ++ t2) d B b W := by
  intro A cap hcap hk
  show Prn 73 (nv h A 3 cap) ([102, 117, 110, 99, 32] ++ h.text.data.toList ++ [40] ++ joinC (mapF τ k0) ++ [41, 32] ++ t2) d B b W
  intro l w hp hb hlen
  obtain ⟨g, o, A0, c0, rfl, hg, h90, hc0, hk0, hl0⟩ := kid1 hk
  obtain ⟨A1, c1, _, h91, hc1, hk1, hl1⟩ := lie1 hl0
  obtain ⟨A2, c2, _, h92, hc2, hk2, hl2⟩ := lie1 hl1
  have HW := Lib.hid (hp.below1 (bx h (some ⟨g, o, none⟩) 3 cap))
  have HKW := Lib.hid (Kp.alloc w (bx h (some ⟨g, o, none⟩) 3 cap))
  have S1 := Lib.hid (hp.fresh (bx h (some ⟨g, o, none⟩) 3 cap))
  have HB := Lib.hid (Nb.new w h (some ⟨g, o, none⟩) 3 cap)
  have HK0 := Lib.hid (h90.below (hb.trans HW.out) hg)
  have HK1 := Lib.hid (h91.below (hb.trans HW.out) hg)
  have HK2 : Hid (At9 (w.alloc (bx h (some ⟨g, o, none⟩) 3 cap)) g (o + 18) h2 A2 k2.len c2) := Lib.hid (h92.below (hb.trans HW.out) hg)
  have hgw0 : g < w.heap.size := Nat.lt_of_lt_of_le hg hp.hB
  have HLL : Hid (∀ tx, joinC (mapF τ k0) = tx → ∀ wx l1 V, Below B (w.alloc (bx h (some ⟨g, o, none⟩) 3 cap)) wx → Sn wx B b l1 d V → l1.length + tx.length ≤ lim → Calls Tryz.prog 98 #[pt b, .slice A0 k0.len c0, .func (.func 71) #[pt b] #[]] V (Done wx B b (l1 ++ tx) d)) := Lib.hid fun tx htx wx l1 V hbx s1 hl => by
    rw [← htx] at hl ⊢
    exact list_71 k0 τ s1 (hk0.below (((hb.trans HW.out).trans hbx).trans s1.bl) (Nat.le_refl _)) (all_imp (fun h k hh => hh.mv ((hb.trans HW.out).trans hbx)) P0) (fun A k h => kids_back h s1.bl) hm0 hl
  have HP2 := Lib.hid ((P2 A2 c2 hc2 hk2).mono (hb.trans HW.out))
  obtain ⟨tx, htx⟩ : ∃ tx, joinC (mapF τ k0) = tx := ⟨_, rfl⟩
  have HL := Lib.hid (HLL.out tx htx)
  clear HLL P0 P2
  rw [htx] at hlen ⊢
  simp only [List.length_append, List.length_cons, List.length_nil, len_toList] at hlen
  have HB0 := Lib.hid (HB.out)
  obtain ⟨v0, v1, v2, v3, v4, v5, v6, v7, v8⟩ := HB.out.cells
  have hgw : g < (w.alloc (bx h (some ⟨g, o, none⟩) 3 cap)).heap.size := by simp only [World.size_alloc]; omega
  have hqw : w.heap.size < (w.alloc (bx h (some ⟨g, o, none⟩) 3 cap)).heap.size := by simp
  generalize hq : w.heap.size = q at v0 v1 v2 v3 v4 v5 v6 v7 v8 hqw HB0
  obtain ⟨q00, q01, q02, q03, q04, q05, q06, q07, q08⟩ := HK0.out
  obtain ⟨q10, q11, q12, q13, q14, q15, q16, q17, q18⟩ := HK1.out
  obtain ⟨q20, q21, q22, q23, q24, q25, q26, q27, q28⟩ := HK2.out
  have HQ := Lib.hid hq
  have HSF : Hid (SF q g o (.slice (some ⟨g, o, none⟩) 3 cap) (.int .i64 h0.kind) (.string h0.text) (.int .i64 h0.num) (.int .i64 h0.pos) (.slice A0 k0.len c0) (.int .i64 h0.tk) (.string h0.tn) (.int .i64 h0.ref) (.int .i64 h0.up) (.int .i64 h1.kind) (.string h1.text) (.int .i64 h1.num) (.int .i64 h1.pos) (.slice A1 k1.len c1) (.int .i64 h1.tk) (.string h1.tn) (.int .i64 h1.ref) (.int .i64 h1.up) (.int .i64 h2.kind) (.string h2.text) (.int .i64 h2.num) (.int .i64 h2.pos) (.slice A2 k2.len c2) (.int .i64 h2.tk) (.string h2.tn) (.int .i64 h2.ref) (.int .i64 h2.up) (w.alloc (bx h (some ⟨g, o, none⟩) 3 cap))) := Lib.hid ⟨hqw, hgw, v4, q00, q01, q02, q03, q04, q05, q06, q07, q08, q10, q11, q12, q13, q14, q15, q16, q17, q18, q20, q21, q22, q23, q24, q25, q26, q27, q28⟩
  go_enter Tryz.func73, Tryz.ntmps73
  go_upto_region 1 with (fail)
  generalize hW1 : w.alloc (bx h (some ⟨g, o, none⟩) 3 cap) = W1 at *
  clear hk hcap hp hb h90 hc0 hk0 hl0 h91 hc1 hk1 hl1 h92 hc2 hk2 hl2 hq
  have HW1 := Lib.hid hW1
  go_cut [4, 5, 6] (fun s4 s5 s6 wx => ∃ p0 p1 p2 : Nat, s4 = pt p0 ∧ s5 = pt p1 ∧ s6 = pt p2 ∧ Nb wx p0 h0 A0 k0.len c0 ∧ Nb wx p1 h1 A1 k1.len c1 ∧ Nb wx p2 h2 A2 k2.len c2 ∧ Nb wx q h (some ⟨g, o, none⟩) 3 cap ∧ Sn W1 B b l d wx)
  case first =>
    go_region_held3 (fun w' => q < w'.heap.size ∧ g < w'.heap.size ∧ w'.cell? ⟨q, 4, none⟩ = some (.slice (some ⟨g, o, none⟩) 3 cap) ∧ w'.cell? ⟨g, o, none⟩ = some (.int .i64 h0.kind) ∧ w'.cell? ⟨g, o + 1, none⟩ = some (.string h0.text) ∧ w'.cell? ⟨g, o + 2, none⟩ = some (.int .i64 h0.num) ∧ w'.cell? ⟨g, o + 3, none⟩ = some (.int .i64 h0.pos) ∧ w'.cell? ⟨g, o + 4, none⟩ = some (.slice A0 k0.len c0) ∧ w'.cell? ⟨g, o + 5, none⟩ = some (.int .i64 h0.tk) ∧ w'.cell? ⟨g, o + 6, none⟩ = some (.string h0.tn) ∧ w'.cell? ⟨g, o + 7, none⟩ = some (.int .i64 h0.ref) ∧ w'.cell? ⟨g, o + 8, none⟩ = some (.int .i64 h0.up) ∧ w'.cell? ⟨g, o + 9, none⟩ = some (.int .i64 h1.kind) ∧ w'.cell? ⟨g, o + 10, none⟩ = some (.string h1.text) ∧ w'.cell? ⟨g, o + 11, none⟩ = some (.int .i64 h1.num) ∧ w'.cell? ⟨g, o + 12, none⟩ = some (.int .i64 h1.pos) ∧ w'.cell? ⟨g, o + 13, none⟩ = some (.slice A1 k1.len c1) ∧ w'.cell? ⟨g, o + 14, none⟩ = some (.int .i64 h1.tk) ∧ w'.cell? ⟨g, o + 15, none⟩ = some (.string h1.tn) ∧ w'.cell? ⟨g, o + 16, none⟩ = some (.int .i64 h1.ref) ∧ w'.cell? ⟨g, o + 17, none⟩ = some (.int .i64 h1.up) ∧ w'.cell? ⟨g, o + 18, none⟩ = some (.int .i64 h2.kind) ∧ w'.cell? ⟨g, o + 19, none⟩ = some (.string h2.text) ∧ w'.cell? ⟨g, o + 20, none⟩ = some (.int .i64 h2.num) ∧ w'.cell? ⟨g, o + 21, none⟩ = some (.int .i64 h2.pos) ∧ w'.cell? ⟨g, o + 22, none⟩ = some (.slice A2 k2.len c2) ∧ w'.cell? ⟨g, o + 23, none⟩ = some (.int .i64 h2.tk) ∧ w'.cell? ⟨g, o + 24, none⟩ = some (.string h2.tn) ∧ w'.cell? ⟨g, o + 25, none⟩ = some (.int .i64 h2.ref) ∧ w'.cell? ⟨g, o + 26, none⟩ = some (.int .i64 h2.up))
      (first | exact HSF.out.al0 | exact HSF.out.al1 _ | exact HSF.out.al2 _ _ | exact HSF.out.al3 _ _ _) (fail)
    all_goals (go_wp2_with fail; go_meet; exact ⟨_, _, _, rfl, rfl, rfl, (by first | exact nb_1 _ _ _ _ | exact nb_2 _ _ _ _ | exact nb_3 _ _ _ _), (by first | exact nb_1 _ _ _ _ | exact nb_2 _ _ _ _ | exact nb_3 _ _ _ _), (by first | exact nb_1 _ _ _ _ | exact nb_2 _ _ _ _ | exact nb_3 _ _ _ _), HB0.out.below (Below.drew ((((Below.refl _ _).alloc (Nat.le_refl _) _).alloc (by simp) _).alloc (by simp; omega) _)), (((S1.out.al _).al _).al _).dr⟩)
  case rest =>
    obtain ⟨p0, p1, p2, rfl, rfl, rfl, n0, n1, n2, nq, sx⟩ := hcut
    have N0 := Lib.hid n0
    have N1 := Lib.hid n1
    have N2 := Lib.hid n2
    have SX := Lib.hid sx
    obtain ⟨f0, f1, f2, f3, f4, f5, f6, f7, f8⟩ := nq.cells
    clear n0 n1 n2 nq sx
    have S1 := Lib.hid (Sn.start SX.out.pz)
    go_wp2_with (first
      | (go_at_call 99; refine (S4.out.prn (HP2.out.mono SX.out.bl) (by (try simp only [List.length_append, List.length_cons, List.length_nil, len_toList]); (try show _ ≤ _); omega)).mono ?_; rintro e w5 ⟨rfl, s5⟩; have S5 := Lib.hid s5; obtain ⟨x50, x51, x52, x53, x54, x55, x56, x57, x58⟩ := (N0.out.kp s5.kp).cells; obtain ⟨y50, y51, y52, y53, y54, y55, y56, y57, y58⟩ := (N1.out.kp s5.kp).cells; obtain ⟨z50, z51, z52, z53, z54, z55, z56, z57, z58⟩ := (N2.out.kp s5.kp).cells; clear s5)
      | (go_at_call 52; refine (write1 S3.out ⟨#[41, 32]⟩ (by (try simp only [List.length_append, List.length_cons, List.length_nil, len_toList]); (try show _ ≤ _); omega) (by first | rfl | simp)).mono ?_; rintro e w4 ⟨rfl, s4⟩; have S4 := Lib.hid s4; obtain ⟨x40, x41, x42, x43, x44, x45, x46, x47, x48⟩ := (N0.out.kp s4.kp).cells; obtain ⟨y40, y41, y42, y43, y44, y45, y46, y47, y48⟩ := (N1.out.kp s4.kp).cells; obtain ⟨z40, z41, z42, z43, z44, z45, z46, z47, z48⟩ := (N2.out.kp s4.kp).cells; clear s4)
      | (go_at_call 98; refine (HL.out _ _ _ SX.out.bl S2.out (by (try simp only [List.length_append, List.length_cons, List.length_nil, len_toList]); (try show _ ≤ _); omega)).mono ?_; rintro e w3 ⟨rfl, s3⟩; have S3 := Lib.hid s3; obtain ⟨x30, x31, x32, x33, x34, x35, x36, x37, x38⟩ := (N0.out.kp s3.kp).cells; obtain ⟨y30, y31, y32, y33, y34, y35, y36, y37, y38⟩ := (N1.out.kp s3.kp).cells; obtain ⟨z30, z31, z32, z33, z34, z35, z36, z37, z38⟩ := (N2.out.kp s3.kp).cells; clear s3)
      | (go_at_call 52; refine (write3 S1.out ⟨#[102, 117, 110, 99, 32]⟩ h.text ⟨#[40]⟩ (by (try simp only [List.length_append, List.length_cons, List.length_nil, len_toList]); (try show _ ≤ _); omega) (by first | rfl | simp)).mono ?_; rintro e w2 ⟨rfl, s2⟩; have S2 := Lib.hid s2; obtain ⟨x20, x21, x22, x23, x24, x25, x26, x27, x28⟩ := (N0.out.kp s2.kp).cells; obtain ⟨y20, y21, y22, y23, y24, y25, y26, y27, y28⟩ := (N1.out.kp s2.kp).cells; obtain ⟨z20, z21, z22, z23, z24, z25, z26, z27, z28⟩ := (N2.out.kp s2.kp).cells; clear s2))
    go_end0
    exact (SX.out.trans S5.out).done (HW1.out ▸ HW.out) (HW1.out ▸ HKW.out) (by simp [List.append_assoc])
set_option maxRecDepth 100000 in
set_option maxHeartbeats 8000000 in
theorem function_yes {W : World} {B b : Nat} {d : Int} (h h0 h1 h2 : Hd) (k0 k1 k2 : Fo) (τ : Hd → Fo → Bs) (t2 : Bs) (P0 : k0.All fun h k => PrnT 71 h k (τ h k) d B b W) (hm0 : k0.cnt ≤ 1048576) (P2 : PrnT 99 h2 k2 t2 d B b W) (hm : h1.text.size ≤ 20000) (h9 : (h1.kind == 9) = false) :
    PrnT 73 h (.cons h0 k0 (.cons h1 k1 (.cons h2 k2 .nil))) ([102, 117, 110, 99, 32] ++ h.text.data.toList ++ [40] ++ joinC (mapF τ k0) ++ [41, 32] ++ (typeS h1 ++ [32]) ++ t2) d B b W := by
  intro A cap hcap hk
  show Prn 73 (nv h A 3 cap) ([102, 117, 110, 99, 32] ++ h.text.data.toList ++ [40] ++ joinC (mapF τ k0) ++ [41, 32] ++ (typeS h1 ++ [32]) ++ t2) d B b W
  intro l w hp hb hlen
  obtain ⟨g, o, A0, c0, rfl, hg, h90, hc0, hk0, hl0⟩ := kid1 hk
  obtain ⟨A1, c1, _, h91, hc1, hk1, hl1⟩ := lie1 hl0
  obtain ⟨A2, c2, _, h92, hc2, hk2, hl2⟩ := lie1 hl1
  have HW := Lib.hid (hp.below1 (bx h (some ⟨g, o, none⟩) 3 cap))
  have HKW := Lib.hid (Kp.alloc w (bx h (some ⟨g, o, none⟩) 3 cap))
  have S1 := Lib.hid (hp.fresh (bx h (some ⟨g, o, none⟩) 3 cap))
  have HB := Lib.hid (Nb.new w h (some ⟨g, o, none⟩) 3 cap)
  have HK0 := Lib.hid (h90.below (hb.trans HW.out) hg)
  have HK1 := Lib.hid (h91.below (hb.trans HW.out) hg)
  have HK2 : Hid (At9 (w.alloc (bx h (some ⟨g, o, none⟩) 3 cap)) g (o + 18) h2 A2 k2.len c2) := Lib.hid (h92.below (hb.trans HW.out) hg)
  have hgw0 : g < w.heap.size := Nat.lt_of_lt_of_le hg hp.hB
  have HLL : Hid (∀ tx, joinC (mapF τ k0) = tx → ∀ wx l1 V, Below B (w.alloc (bx h (some ⟨g, o, none⟩) 3 cap)) wx → Sn wx B b l1 d V → l1.length + tx.length ≤ lim → Calls Tryz.prog 98 #[pt b, .slice A0 k0.len c0, .func (.func 71) #[pt b] #[]] V (Done wx B b (l1 ++ tx) d)) := Lib.hid fun tx htx wx l1 V hbx s1 hl => by
    rw [← htx] at hl ⊢
    exact list_71 k0 τ s1 (hk0.below (((hb.trans HW.out).trans hbx).trans s1.bl) (Nat.le_refl _)) (all_imp (fun h k hh => hh.mv ((hb.trans HW.out).trans hbx)) P0) (fun A k h => kids_back h s1.bl) hm0 hl
  have HP2 := Lib.hid ((P2 A2 c2 hc2 hk2).mono (hb.trans HW.out))
  obtain ⟨tx, htx⟩ : ∃ tx, joinC (mapF τ k0) = tx := ⟨_, rfl⟩
  obtain ⟨s, hs⟩ : ∃ s : ByteArray, s = ⟨(typeS h1).toArray⟩ := ⟨_, rfl⟩
  have e1 : typeS h1 = s.data.toList := by rw [hs]
  have HT : Hid (∀ l1 V w1, Sn w1 B b l1 d V → Calls Tryz.prog 96 #[nv h1 A1 k1.len c1] V fun e w' => e = .returned (.string s) ∧ Sn w1 B b l1 d w') := Lib.hid fun l1 V w1 s1 => (typeText_any h1 A1 k1.len c1 _ hm).mono fun e w' hq => ⟨by rw [hq.1, hs], s1.keep hq.2⟩
  rw [e1] at hlen ⊢
  have HL := Lib.hid (HLL.out tx htx)
  clear HLL P0 P2
  rw [htx] at hlen ⊢
  simp only [List.length_append, List.length_cons, List.length_nil, len_toList] at hlen
  have HB0 := Lib.hid (HB.out)
  obtain ⟨v0, v1, v2, v3, v4, v5, v6, v7, v8⟩ := HB.out.cells
  have hgw : g < (w.alloc (bx h (some ⟨g, o, none⟩) 3 cap)).heap.size := by simp only [World.size_alloc]; omega
  have hqw : w.heap.size < (w.alloc (bx h (some ⟨g, o, none⟩) 3 cap)).heap.size := by simp
  generalize hq : w.heap.size = q at v0 v1 v2 v3 v4 v5 v6 v7 v8 hqw HB0
  obtain ⟨q00, q01, q02, q03, q04, q05, q06, q07, q08⟩ := HK0.out
  obtain ⟨q10, q11, q12, q13, q14, q15, q16, q17, q18⟩ := HK1.out
  obtain ⟨q20, q21, q22, q23, q24, q25, q26, q27, q28⟩ := HK2.out
  have HQ := Lib.hid hq
  have HSF : Hid (SF q g o (.slice (some ⟨g, o, none⟩) 3 cap) (.int .i64 h0.kind) (.string h0.text) (.int .i64 h0.num) (.int .i64 h0.pos) (.slice A0 k0.len c0) (.int .i64 h0.tk) (.string h0.tn) (.int .i64 h0.ref) (.int .i64 h0.up) (.int .i64 h1.kind) (.string h1.text) (.int .i64 h1.num) (.int .i64 h1.pos) (.slice A1 k1.len c1) (.int .i64 h1.tk) (.string h1.tn) (.int .i64 h1.ref) (.int .i64 h1.up) (.int .i64 h2.kind) (.string h2.text) (.int .i64 h2.num) (.int .i64 h2.pos) (.slice A2 k2.len c2) (.int .i64 h2.tk) (.string h2.tn) (.int .i64 h2.ref) (.int .i64 h2.up) (w.alloc (bx h (some ⟨g, o, none⟩) 3 cap))) := Lib.hid ⟨hqw, hgw, v4, q00, q01, q02, q03, q04, q05, q06, q07, q08, q10, q11, q12, q13, q14, q15, q16, q17, q18, q20, q21, q22, q23, q24, q25, q26, q27, q28⟩
  clear hs e1 hm
  go_enter Tryz.func73, Tryz.ntmps73
  go_upto_region 1 with (fail)
  generalize hW1 : w.alloc (bx h (some ⟨g, o, none⟩) 3 cap) = W1 at *
  clear hk hcap hp hb h90 hc0 hk0 hl0 h91 hc1 hk1 hl1 h92 hc2 hk2 hl2 hq
  have HW1 := Lib.hid hW1
  go_cut [4, 5, 6] (fun s4 s5 s6 wx => ∃ p0 p1 p2 : Nat, s4 = pt p0 ∧ s5 = pt p1 ∧ s6 = pt p2 ∧ Nb wx p0 h0 A0 k0.len c0 ∧ Nb wx p1 h1 A1 k1.len c1 ∧ Nb wx p2 h2 A2 k2.len c2 ∧ Nb wx q h (some ⟨g, o, none⟩) 3 cap ∧ Sn W1 B b l d wx)
  case first =>
    go_region_held3 (fun w' => q < w'.heap.size ∧ g < w'.heap.size ∧ w'.cell? ⟨q, 4, none⟩ = some (.slice (some ⟨g, o, none⟩) 3 cap) ∧ w'.cell? ⟨g, o, none⟩ = some (.int .i64 h0.kind) ∧ w'.cell? ⟨g, o + 1, none⟩ = some (.string h0.text) ∧ w'.cell? ⟨g, o + 2, none⟩ = some (.int .i64 h0.num) ∧ w'.cell? ⟨g, o + 3, none⟩ = some (.int .i64 h0.pos) ∧ w'.cell? ⟨g, o + 4, none⟩ = some (.slice A0 k0.len c0) ∧ w'.cell? ⟨g, o + 5, none⟩ = some (.int .i64 h0.tk) ∧ w'.cell? ⟨g, o + 6, none⟩ = some (.string h0.tn) ∧ w'.cell? ⟨g, o + 7, none⟩ = some (.int .i64 h0.ref) ∧ w'.cell? ⟨g, o + 8, none⟩ = some (.int .i64 h0.up) ∧ w'.cell? ⟨g, o + 9, none⟩ = some (.int .i64 h1.kind) ∧ w'.cell? ⟨g, o + 10, none⟩ = some (.string h1.text) ∧ w'.cell? ⟨g, o + 11, none⟩ = some (.int .i64 h1.num) ∧ w'.cell? ⟨g, o + 12, none⟩ = some (.int .i64 h1.pos) ∧ w'.cell? ⟨g, o + 13, none⟩ = some (.slice A1 k1.len c1) ∧ w'.cell? ⟨g, o + 14, none⟩ = some (.int .i64 h1.tk) ∧ w'.cell? ⟨g, o + 15, none⟩ = some (.string h1.tn) ∧ w'.cell? ⟨g, o + 16, none⟩ = some (.int .i64 h1.ref) ∧ w'.cell? ⟨g, o + 17, none⟩ = some (.int .i64 h1.up) ∧ w'.cell? ⟨g, o + 18, none⟩ = some (.int .i64 h2.kind) ∧ w'.cell? ⟨g, o + 19, none⟩ = some (.string h2.text) ∧ w'.cell? ⟨g, o + 20, none⟩ = some (.int .i64 h2.num) ∧ w'.cell? ⟨g, o + 21, none⟩ = some (.int .i64 h2.pos) ∧ w'.cell? ⟨g, o + 22, none⟩ = some (.slice A2 k2.len c2) ∧ w'.cell? ⟨g, o + 23, none⟩ = some (.int .i64 h2.tk) ∧ w'.cell? ⟨g, o + 24, none⟩ = some (.string h2.tn) ∧ w'.cell? ⟨g, o + 25, none⟩ = some (.int .i64 h2.ref) ∧ w'.cell? ⟨g, o + 26, none⟩ = some (.int .i64 h2.up))
      (first | exact HSF.out.al0 | exact HSF.out.al1 _ | exact HSF.out.al2 _ _ | exact HSF.out.al3 _ _ _) (fail)
    all_goals (go_wp2_with fail; go_meet; exact ⟨_, _, _, rfl, rfl, rfl, (by first | exact nb_1 _ _ _ _ | exact nb_2 _ _ _ _ | exact nb_3 _ _ _ _), (by first | exact nb_1 _ _ _ _ | exact nb_2 _ _ _ _ | exact nb_3 _ _ _ _), (by first | exact nb_1 _ _ _ _ | exact nb_2 _ _ _ _ | exact nb_3 _ _ _ _), HB0.out.below (Below.drew ((((Below.refl _ _).alloc (Nat.le_refl _) _).alloc (by simp) _).alloc (by simp; omega) _)), (((S1.out.al _).al _).al _).dr⟩)
  case rest =>
    obtain ⟨p0, p1, p2, rfl, rfl, rfl, n0, n1, n2, nq, sx⟩ := hcut
    have N0 := Lib.hid n0
    have N1 := Lib.hid n1
    have N2 := Lib.hid n2
    have SX := Lib.hid sx
    obtain ⟨f0, f1, f2, f3, f4, f5, f6, f7, f8⟩ := nq.cells
    clear n0 n1 n2 nq sx
    have S1 := Lib.hid (Sn.start SX.out.pz)
    go_wp2_with (first
      | (go_at_call 99; refine (S6.out.prn (HP2.out.mono SX.out.bl) (by (try simp only [List.length_append, List.length_cons, List.length_nil, len_toList]); (try show _ ≤ _); omega)).mono ?_; rintro e w7 ⟨rfl, s7⟩; have S7 := Lib.hid s7; obtain ⟨x70, x71, x72, x73, x74, x75, x76, x77, x78⟩ := (N0.out.kp s7.kp).cells; obtain ⟨y70, y71, y72, y73, y74, y75, y76, y77, y78⟩ := (N1.out.kp s7.kp).cells; obtain ⟨z70, z71, z72, z73, z74, z75, z76, z77, z78⟩ := (N2.out.kp s7.kp).cells; clear s7)
      | (go_at_call 52; refine (write2 S5.out s ⟨#[32]⟩ (by (try simp only [List.length_append, List.length_cons, List.length_nil, len_toList]); (try show _ ≤ _); omega) (by first | rfl | simp)).mono ?_; rintro e w6 ⟨rfl, s6⟩; have S6 := Lib.hid s6; obtain ⟨x60, x61, x62, x63, x64, x65, x66, x67, x68⟩ := (N0.out.kp s6.kp).cells; obtain ⟨y60, y61, y62, y63, y64, y65, y66, y67, y68⟩ := (N1.out.kp s6.kp).cells; obtain ⟨z60, z61, z62, z63, z64, z65, z66, z67, z68⟩ := (N2.out.kp s6.kp).cells; clear s6)
      | (go_at_call 96; refine (HT.out _ _ _ S4.out).mono ?_; rintro e w5 ⟨rfl, s5⟩; have S5 := Lib.hid s5; obtain ⟨x50, x51, x52, x53, x54, x55, x56, x57, x58⟩ := (N0.out.kp s5.kp).cells; obtain ⟨y50, y51, y52, y53, y54, y55, y56, y57, y58⟩ := (N1.out.kp s5.kp).cells; obtain ⟨z50, z51, z52, z53, z54, z55, z56, z57, z58⟩ := (N2.out.kp s5.kp).cells; clear s5)
      | (go_at_call 52; refine (write1 S3.out ⟨#[41, 32]⟩ (by (try simp only [List.length_append, List.length_cons, List.length_nil, len_toList]); (try show _ ≤ _); omega) (by first | rfl | simp)).mono ?_; rintro e w4 ⟨rfl, s4⟩; have S4 := Lib.hid s4; obtain ⟨x40, x41, x42, x43, x44, x45, x46, x47, x48⟩ := (N0.out.kp s4.kp).cells; obtain ⟨y40, y41, y42, y43, y44, y45, y46, y47, y48⟩ := (N1.out.kp s4.kp).cells; obtain ⟨z40, z41, z42, z43, z44, z45, z46, z47, z48⟩ := (N2.out.kp s4.kp).cells; clear s4)
      | (go_at_call 98; refine (HL.out _ _ _ SX.out.bl S2.out (by (try simp only [List.length_append, List.length_cons, List.length_nil, len_toList]); (try show _ ≤ _); omega)).mono ?_; rintro e w3 ⟨rfl, s3⟩; have S3 := Lib.hid s3; obtain ⟨x30, x31, x32, x33, x34, x35, x36, x37, x38⟩ := (N0.out.kp s3.kp).cells; obtain ⟨y30, y31, y32, y33, y34, y35, y36, y37, y38⟩ := (N1.out.kp s3.kp).cells; obtain ⟨z30, z31, z32, z33, z34, z35, z36, z37, z38⟩ := (N2.out.kp s3.kp).cells; clear s3)
      | (go_at_call 52; refine (write3 S1.out ⟨#[102, 117, 110, 99, 32]⟩ h.text ⟨#[40]⟩ (by (try simp only [List.length_append, List.length_cons, List.length_nil, len_toList]); (try show _ ≤ _); omega) (by first | rfl | simp)).mono ?_; rintro e w2 ⟨rfl, s2⟩; have S2 := Lib.hid s2; obtain ⟨x20, x21, x22, x23, x24, x25, x26, x27, x28⟩ := (N0.out.kp s2.kp).cells; obtain ⟨y20, y21, y22, y23, y24, y25, y26, y27, y28⟩ := (N1.out.kp s2.kp).cells; obtain ⟨z20, z21, z22, z23, z24, z25, z26, z27, z28⟩ := (N2.out.kp s2.kp).cells; clear s2))
    go_end0
    exact (SX.out.trans S7.out).done (HW1.out ▸ HW.out) (HW1.out ▸ HKW.out) (by simp [List.append_assoc])
end Go.Proofs.YticbcnhbpbaocaaGreatDoor
