/-
  The walk of sample: the document's example as a tree in memory.
-/
import Derived.Test.YticbcnhbpbaocaaGreatDoorKA
import Derived.Test.YticbcnhbpbaocaaGreatDoorCA
import Derived.Deep.RegionHeld3
import Derived.Deep.DeepCutAuto

set_option linter.all false
namespace Go.Proofs.YticbcnhbpbaocaaGreatDoor
open Go.RowKit T T.Fo
set_option linter.all false

/-- A row of nodes that fills a block of the call's own. -/
def Blk (w : World) (B g : Nat) (l : List El) : Prop := w.heap[g]? = some (.cells (ecells l).toArray 26 (0, 0)) ∧ B ≤ g
theorem Blk.lt {w : World} {B g : Nat} {l : List El} (h : Blk w B g l) : g < w.heap.size := (Array.getElem?_eq_some_iff.1 h.1).1
theorem Blk.below {w w' : World} {B g : Nat} {l : List El} (h : Blk w B g l) (hb : Below w.heap.size w w') : Blk w' B g l :=
  ⟨(hb.block g h.lt).trans h.1, h.2⟩
theorem at_1 (W : World) (a b c : Obj) : (((W.alloc a).alloc b).alloc c).drew.heap[W.heap.size]? = some a := by
  show (((W.alloc a).alloc b).alloc c).heap[W.heap.size]? = some a
  rw [Below.heap_alloc _ _ _ (by simp; omega), Below.heap_alloc _ _ _ (by simp)]
  exact heap_alloc_new W a
theorem at_2 (W : World) (a b c : Obj) : (((W.alloc a).alloc b).alloc c).drew.heap[W.heap.size + 1]? = some b := by
  show (((W.alloc a).alloc b).alloc c).heap[W.heap.size + 1]? = some b
  rw [Below.heap_alloc _ _ _ (by simp)]
  have := heap_alloc_new (W.alloc a) b
  rw [World.size_alloc] at this
  exact this
theorem at_3 (W : World) (a b c : Obj) : (((W.alloc a).alloc b).alloc c).drew.heap[W.heap.size + 1 + 1]? = some c := by
  have := heap_alloc_new ((W.alloc a).alloc b) c
  rw [World.size_alloc, World.size_alloc] at this
  exact this
theorem bel3 (W : World) (a b c : Obj) : Below W.heap.size W (((W.alloc a).alloc b).alloc c).drew := Below.drew ((((Below.refl _ _).alloc (Nat.le_refl _) _).alloc (by simp) _).alloc (by simp; omega) _)
def hx (k : Int) (t : List UInt8) (n : Int) : Hd := ⟨k, ⟨t.toArray⟩, n, 0, 0, ⟨#[]⟩, 0, 0⟩
abbrev lf (h : Hd) : El := ⟨h, .nil, none, 0⟩


/-- The cells that a region reads. -/
def S1 (q : Nat) (u0 u1 u2 u3 u4 u5 u6 u7 u8 : Value) (w : World) : Prop :=
  q < w.heap.size ∧ w.cell? ⟨q, 0, none⟩ = some (u0) ∧ w.cell? ⟨q, 1, none⟩ = some (u1) ∧ w.cell? ⟨q, 2, none⟩ = some (u2) ∧ w.cell? ⟨q, 3, none⟩ = some (u3) ∧ w.cell? ⟨q, 4, none⟩ = some (u4) ∧ w.cell? ⟨q, 5, none⟩ = some (u5) ∧ w.cell? ⟨q, 6, none⟩ = some (u6) ∧ w.cell? ⟨q, 7, none⟩ = some (u7) ∧ w.cell? ⟨q, 8, none⟩ = some (u8)
theorem S1.al0 {q : Nat} {u0 u1 u2 u3 u4 u5 u6 u7 u8 : Value} {w : World} (h : S1 q u0 u1 u2 u3 u4 u5 u6 u7 u8 w) : q < w.drew.heap.size ∧ w.drew.cell? ⟨q, 0, none⟩ = some (u0) ∧ w.drew.cell? ⟨q, 1, none⟩ = some (u1) ∧ w.drew.cell? ⟨q, 2, none⟩ = some (u2) ∧ w.drew.cell? ⟨q, 3, none⟩ = some (u3) ∧ w.drew.cell? ⟨q, 4, none⟩ = some (u4) ∧ w.drew.cell? ⟨q, 5, none⟩ = some (u5) ∧ w.drew.cell? ⟨q, 6, none⟩ = some (u6) ∧ w.drew.cell? ⟨q, 7, none⟩ = some (u7) ∧ w.drew.cell? ⟨q, 8, none⟩ = some (u8) := by
  obtain ⟨a0, c0, c1, c2, c3, c4, c5, c6, c7, c8⟩ := h
  exact ⟨kl_a0 a0, kc_a0 a0 c0, kc_a0 a0 c1, kc_a0 a0 c2, kc_a0 a0 c3, kc_a0 a0 c4, kc_a0 a0 c5, kc_a0 a0 c6, kc_a0 a0 c7, kc_a0 a0 c8⟩
theorem S1.al1 {q : Nat} {u0 u1 u2 u3 u4 u5 u6 u7 u8 : Value} {w : World} (h : S1 q u0 u1 u2 u3 u4 u5 u6 u7 u8 w) (o_0 : Obj) : q < (w.alloc o_0).drew.heap.size ∧ (w.alloc o_0).drew.cell? ⟨q, 0, none⟩ = some (u0) ∧ (w.alloc o_0).drew.cell? ⟨q, 1, none⟩ = some (u1) ∧ (w.alloc o_0).drew.cell? ⟨q, 2, none⟩ = some (u2) ∧ (w.alloc o_0).drew.cell? ⟨q, 3, none⟩ = some (u3) ∧ (w.alloc o_0).drew.cell? ⟨q, 4, none⟩ = some (u4) ∧ (w.alloc o_0).drew.cell? ⟨q, 5, none⟩ = some (u5) ∧ (w.alloc o_0).drew.cell? ⟨q, 6, none⟩ = some (u6) ∧ (w.alloc o_0).drew.cell? ⟨q, 7, none⟩ = some (u7) ∧ (w.alloc o_0).drew.cell? ⟨q, 8, none⟩ = some (u8) := by
  obtain ⟨a0, c0, c1, c2, c3, c4, c5, c6, c7, c8⟩ := h
  exact ⟨kl_a1 a0, kc_a1 a0 c0, kc_a1 a0 c1, kc_a1 a0 c2, kc_a1 a0 c3, kc_a1 a0 c4, kc_a1 a0 c5, kc_a1 a0 c6, kc_a1 a0 c7, kc_a1 a0 c8⟩
theorem S1.al2 {q : Nat} {u0 u1 u2 u3 u4 u5 u6 u7 u8 : Value} {w : World} (h : S1 q u0 u1 u2 u3 u4 u5 u6 u7 u8 w) (o_0 o_1 : Obj) : q < ((w.alloc o_0).alloc o_1).drew.heap.size ∧ ((w.alloc o_0).alloc o_1).drew.cell? ⟨q, 0, none⟩ = some (u0) ∧ ((w.alloc o_0).alloc o_1).drew.cell? ⟨q, 1, none⟩ = some (u1) ∧ ((w.alloc o_0).alloc o_1).drew.cell? ⟨q, 2, none⟩ = some (u2) ∧ ((w.alloc o_0).alloc o_1).drew.cell? ⟨q, 3, none⟩ = some (u3) ∧ ((w.alloc o_0).alloc o_1).drew.cell? ⟨q, 4, none⟩ = some (u4) ∧ ((w.alloc o_0).alloc o_1).drew.cell? ⟨q, 5, none⟩ = some (u5) ∧ ((w.alloc o_0).alloc o_1).drew.cell? ⟨q, 6, none⟩ = some (u6) ∧ ((w.alloc o_0).alloc o_1).drew.cell? ⟨q, 7, none⟩ = some (u7) ∧ ((w.alloc o_0).alloc o_1).drew.cell? ⟨q, 8, none⟩ = some (u8) := by
  obtain ⟨a0, c0, c1, c2, c3, c4, c5, c6, c7, c8⟩ := h
  exact ⟨kl_a2 a0, kc_a2 a0 c0, kc_a2 a0 c1, kc_a2 a0 c2, kc_a2 a0 c3, kc_a2 a0 c4, kc_a2 a0 c5, kc_a2 a0 c6, kc_a2 a0 c7, kc_a2 a0 c8⟩
theorem S1.al3 {q : Nat} {u0 u1 u2 u3 u4 u5 u6 u7 u8 : Value} {w : World} (h : S1 q u0 u1 u2 u3 u4 u5 u6 u7 u8 w) (o_0 o_1 o_2 : Obj) : q < (((w.alloc o_0).alloc o_1).alloc o_2).drew.heap.size ∧ (((w.alloc o_0).alloc o_1).alloc o_2).drew.cell? ⟨q, 0, none⟩ = some (u0) ∧ (((w.alloc o_0).alloc o_1).alloc o_2).drew.cell? ⟨q, 1, none⟩ = some (u1) ∧ (((w.alloc o_0).alloc o_1).alloc o_2).drew.cell? ⟨q, 2, none⟩ = some (u2) ∧ (((w.alloc o_0).alloc o_1).alloc o_2).drew.cell? ⟨q, 3, none⟩ = some (u3) ∧ (((w.alloc o_0).alloc o_1).alloc o_2).drew.cell? ⟨q, 4, none⟩ = some (u4) ∧ (((w.alloc o_0).alloc o_1).alloc o_2).drew.cell? ⟨q, 5, none⟩ = some (u5) ∧ (((w.alloc o_0).alloc o_1).alloc o_2).drew.cell? ⟨q, 6, none⟩ = some (u6) ∧ (((w.alloc o_0).alloc o_1).alloc o_2).drew.cell? ⟨q, 7, none⟩ = some (u7) ∧ (((w.alloc o_0).alloc o_1).alloc o_2).drew.cell? ⟨q, 8, none⟩ = some (u8) := by
  obtain ⟨a0, c0, c1, c2, c3, c4, c5, c6, c7, c8⟩ := h
  exact ⟨kl_a3 a0, kc_a3 a0 c0, kc_a3 a0 c1, kc_a3 a0 c2, kc_a3 a0 c3, kc_a3 a0 c4, kc_a3 a0 c5, kc_a3 a0 c6, kc_a3 a0 c7, kc_a3 a0 c8⟩
/-- The cells that a region reads. -/
def S2 (q p : Nat) (u0 u1 u2 u3 u4 u5 u6 u7 u8 u9 u10 u11 u12 u13 u14 u15 u16 u17 : Value) (w : World) : Prop :=
  q < w.heap.size ∧ p < w.heap.size ∧ w.cell? ⟨q, 0, none⟩ = some (u0) ∧ w.cell? ⟨q, 1, none⟩ = some (u1) ∧ w.cell? ⟨q, 2, none⟩ = some (u2) ∧ w.cell? ⟨q, 3, none⟩ = some (u3) ∧ w.cell? ⟨q, 4, none⟩ = some (u4) ∧ w.cell? ⟨q, 5, none⟩ = some (u5) ∧ w.cell? ⟨q, 6, none⟩ = some (u6) ∧ w.cell? ⟨q, 7, none⟩ = some (u7) ∧ w.cell? ⟨q, 8, none⟩ = some (u8) ∧ w.cell? ⟨p, 0, none⟩ = some (u9) ∧ w.cell? ⟨p, 1, none⟩ = some (u10) ∧ w.cell? ⟨p, 2, none⟩ = some (u11) ∧ w.cell? ⟨p, 3, none⟩ = some (u12) ∧ w.cell? ⟨p, 4, none⟩ = some (u13) ∧ w.cell? ⟨p, 5, none⟩ = some (u14) ∧ w.cell? ⟨p, 6, none⟩ = some (u15) ∧ w.cell? ⟨p, 7, none⟩ = some (u16) ∧ w.cell? ⟨p, 8, none⟩ = some (u17)
theorem S2.al0 {q p : Nat} {u0 u1 u2 u3 u4 u5 u6 u7 u8 u9 u10 u11 u12 u13 u14 u15 u16 u17 : Value} {w : World} (h : S2 q p u0 u1 u2 u3 u4 u5 u6 u7 u8 u9 u10 u11 u12 u13 u14 u15 u16 u17 w) : q < w.drew.heap.size ∧ p < w.drew.heap.size ∧ w.drew.cell? ⟨q, 0, none⟩ = some (u0) ∧ w.drew.cell? ⟨q, 1, none⟩ = some (u1) ∧ w.drew.cell? ⟨q, 2, none⟩ = some (u2) ∧ w.drew.cell? ⟨q, 3, none⟩ = some (u3) ∧ w.drew.cell? ⟨q, 4, none⟩ = some (u4) ∧ w.drew.cell? ⟨q, 5, none⟩ = some (u5) ∧ w.drew.cell? ⟨q, 6, none⟩ = some (u6) ∧ w.drew.cell? ⟨q, 7, none⟩ = some (u7) ∧ w.drew.cell? ⟨q, 8, none⟩ = some (u8) ∧ w.drew.cell? ⟨p, 0, none⟩ = some (u9) ∧ w.drew.cell? ⟨p, 1, none⟩ = some (u10) ∧ w.drew.cell? ⟨p, 2, none⟩ = some (u11) ∧ w.drew.cell? ⟨p, 3, none⟩ = some (u12) ∧ w.drew.cell? ⟨p, 4, none⟩ = some (u13) ∧ w.drew.cell? ⟨p, 5, none⟩ = some (u14) ∧ w.drew.cell? ⟨p, 6, none⟩ = some (u15) ∧ w.drew.cell? ⟨p, 7, none⟩ = some (u16) ∧ w.drew.cell? ⟨p, 8, none⟩ = some (u17) := by
  obtain ⟨a0, a1, c0, c1, c2, c3, c4, c5, c6, c7, c8, c9, c10, c11, c12, c13, c14, c15, c16, c17⟩ := h
  exact ⟨kl_a0 a0, kl_a0 a1, kc_a0 a0 c0, kc_a0 a0 c1, kc_a0 a0 c2, kc_a0 a0 c3, kc_a0 a0 c4, kc_a0 a0 c5, kc_a0 a0 c6, kc_a0 a0 c7, kc_a0 a0 c8, kc_a0 a1 c9, kc_a0 a1 c10, kc_a0 a1 c11, kc_a0 a1 c12, kc_a0 a1 c13, kc_a0 a1 c14, kc_a0 a1 c15, kc_a0 a1 c16, kc_a0 a1 c17⟩
theorem S2.al1 {q p : Nat} {u0 u1 u2 u3 u4 u5 u6 u7 u8 u9 u10 u11 u12 u13 u14 u15 u16 u17 : Value} {w : World} (h : S2 q p u0 u1 u2 u3 u4 u5 u6 u7 u8 u9 u10 u11 u12 u13 u14 u15 u16 u17 w) (o_0 : Obj) : q < (w.alloc o_0).drew.heap.size ∧ p < (w.alloc o_0).drew.heap.size ∧ (w.alloc o_0).drew.cell? ⟨q, 0, none⟩ = some (u0) ∧ (w.alloc o_0).drew.cell? ⟨q, 1, none⟩ = some (u1) ∧ (w.alloc o_0).drew.cell? ⟨q, 2, none⟩ = some (u2) ∧ (w.alloc o_0).drew.cell? ⟨q, 3, none⟩ = some (u3) ∧ (w.alloc o_0).drew.cell? ⟨q, 4, none⟩ = some (u4) ∧ (w.alloc o_0).drew.cell? ⟨q, 5, none⟩ = some (u5) ∧ (w.alloc o_0).drew.cell? ⟨q, 6, none⟩ = some (u6) ∧ (w.alloc o_0).drew.cell? ⟨q, 7, none⟩ = some (u7) ∧ (w.alloc o_0).drew.cell? ⟨q, 8, none⟩ = some (u8) ∧ (w.alloc o_0).drew.cell? ⟨p, 0, none⟩ = some (u9) ∧ (w.alloc o_0).drew.cell? ⟨p, 1, none⟩ = some (u10) ∧ (w.alloc o_0).drew.cell? ⟨p, 2, none⟩ = some (u11) ∧ (w.alloc o_0).drew.cell? ⟨p, 3, none⟩ = some (u12) ∧ (w.alloc o_0).drew.cell? ⟨p, 4, none⟩ = some (u13) ∧ (w.alloc o_0).drew.cell? ⟨p, 5, none⟩ = some (u14) ∧ (w.alloc o_0).drew.cell? ⟨p, 6, none⟩ = some (u15) ∧ (w.alloc o_0).drew.cell? ⟨p, 7, none⟩ = some (u16) ∧ (w.alloc o_0).drew.cell? ⟨p, 8, none⟩ = some (u17) := by
  obtain ⟨a0, a1, c0, c1, c2, c3, c4, c5, c6, c7, c8, c9, c10, c11, c12, c13, c14, c15, c16, c17⟩ := h
  exact ⟨kl_a1 a0, kl_a1 a1, kc_a1 a0 c0, kc_a1 a0 c1, kc_a1 a0 c2, kc_a1 a0 c3, kc_a1 a0 c4, kc_a1 a0 c5, kc_a1 a0 c6, kc_a1 a0 c7, kc_a1 a0 c8, kc_a1 a1 c9, kc_a1 a1 c10, kc_a1 a1 c11, kc_a1 a1 c12, kc_a1 a1 c13, kc_a1 a1 c14, kc_a1 a1 c15, kc_a1 a1 c16, kc_a1 a1 c17⟩
theorem S2.al2 {q p : Nat} {u0 u1 u2 u3 u4 u5 u6 u7 u8 u9 u10 u11 u12 u13 u14 u15 u16 u17 : Value} {w : World} (h : S2 q p u0 u1 u2 u3 u4 u5 u6 u7 u8 u9 u10 u11 u12 u13 u14 u15 u16 u17 w) (o_0 o_1 : Obj) : q < ((w.alloc o_0).alloc o_1).drew.heap.size ∧ p < ((w.alloc o_0).alloc o_1).drew.heap.size ∧ ((w.alloc o_0).alloc o_1).drew.cell? ⟨q, 0, none⟩ = some (u0) ∧ ((w.alloc o_0).alloc o_1).drew.cell? ⟨q, 1, none⟩ = some (u1) ∧ ((w.alloc o_0).alloc o_1).drew.cell? ⟨q, 2, none⟩ = some (u2) ∧ ((w.alloc o_0).alloc o_1).drew.cell? ⟨q, 3, none⟩ = some (u3) ∧ ((w.alloc o_0).alloc o_1).drew.cell? ⟨q, 4, none⟩ = some (u4) ∧ ((w.alloc o_0).alloc o_1).drew.cell? ⟨q, 5, none⟩ = some (u5) ∧ ((w.alloc o_0).alloc o_1).drew.cell? ⟨q, 6, none⟩ = some (u6) ∧ ((w.alloc o_0).alloc o_1).drew.cell? ⟨q, 7, none⟩ = some (u7) ∧ ((w.alloc o_0).alloc o_1).drew.cell? ⟨q, 8, none⟩ = some (u8) ∧ ((w.alloc o_0).alloc o_1).drew.cell? ⟨p, 0, none⟩ = some (u9) ∧ ((w.alloc o_0).alloc o_1).drew.cell? ⟨p, 1, none⟩ = some (u10) ∧ ((w.alloc o_0).alloc o_1).drew.cell? ⟨p, 2, none⟩ = some (u11) ∧ ((w.alloc o_0).alloc o_1).drew.cell? ⟨p, 3, none⟩ = some (u12) ∧ ((w.alloc o_0).alloc o_1).drew.cell? ⟨p, 4, none⟩ = some (u13) ∧ ((w.alloc o_0).alloc o_1).drew.cell? ⟨p, 5, none⟩ = some (u14) ∧ ((w.alloc o_0).alloc o_1).drew.cell? ⟨p, 6, none⟩ = some (u15) ∧ ((w.alloc o_0).alloc o_1).drew.cell? ⟨p, 7, none⟩ = some (u16) ∧ ((w.alloc o_0).alloc o_1).drew.cell? ⟨p, 8, none⟩ = some (u17) := by
  obtain ⟨a0, a1, c0, c1, c2, c3, c4, c5, c6, c7, c8, c9, c10, c11, c12, c13, c14, c15, c16, c17⟩ := h
  exact ⟨kl_a2 a0, kl_a2 a1, kc_a2 a0 c0, kc_a2 a0 c1, kc_a2 a0 c2, kc_a2 a0 c3, kc_a2 a0 c4, kc_a2 a0 c5, kc_a2 a0 c6, kc_a2 a0 c7, kc_a2 a0 c8, kc_a2 a1 c9, kc_a2 a1 c10, kc_a2 a1 c11, kc_a2 a1 c12, kc_a2 a1 c13, kc_a2 a1 c14, kc_a2 a1 c15, kc_a2 a1 c16, kc_a2 a1 c17⟩
theorem S2.al3 {q p : Nat} {u0 u1 u2 u3 u4 u5 u6 u7 u8 u9 u10 u11 u12 u13 u14 u15 u16 u17 : Value} {w : World} (h : S2 q p u0 u1 u2 u3 u4 u5 u6 u7 u8 u9 u10 u11 u12 u13 u14 u15 u16 u17 w) (o_0 o_1 o_2 : Obj) : q < (((w.alloc o_0).alloc o_1).alloc o_2).drew.heap.size ∧ p < (((w.alloc o_0).alloc o_1).alloc o_2).drew.heap.size ∧ (((w.alloc o_0).alloc o_1).alloc o_2).drew.cell? ⟨q, 0, none⟩ = some (u0) ∧ (((w.alloc o_0).alloc o_1).alloc o_2).drew.cell? ⟨q, 1, none⟩ = some (u1) ∧ (((w.alloc o_0).alloc o_1).alloc o_2).drew.cell? ⟨q, 2, none⟩ = some (u2) ∧ (((w.alloc o_0).alloc o_1).alloc o_2).drew.cell? ⟨q, 3, none⟩ = some (u3) ∧ (((w.alloc o_0).alloc o_1).alloc o_2).drew.cell? ⟨q, 4, none⟩ = some (u4) ∧ (((w.alloc o_0).alloc o_1).alloc o_2).drew.cell? ⟨q, 5, none⟩ = some (u5) ∧ (((w.alloc o_0).alloc o_1).alloc o_2).drew.cell? ⟨q, 6, none⟩ = some (u6) ∧ (((w.alloc o_0).alloc o_1).alloc o_2).drew.cell? ⟨q, 7, none⟩ = some (u7) ∧ (((w.alloc o_0).alloc o_1).alloc o_2).drew.cell? ⟨q, 8, none⟩ = some (u8) ∧ (((w.alloc o_0).alloc o_1).alloc o_2).drew.cell? ⟨p, 0, none⟩ = some (u9) ∧ (((w.alloc o_0).alloc o_1).alloc o_2).drew.cell? ⟨p, 1, none⟩ = some (u10) ∧ (((w.alloc o_0).alloc o_1).alloc o_2).drew.cell? ⟨p, 2, none⟩ = some (u11) ∧ (((w.alloc o_0).alloc o_1).alloc o_2).drew.cell? ⟨p, 3, none⟩ = some (u12) ∧ (((w.alloc o_0).alloc o_1).alloc o_2).drew.cell? ⟨p, 4, none⟩ = some (u13) ∧ (((w.alloc o_0).alloc o_1).alloc o_2).drew.cell? ⟨p, 5, none⟩ = some (u14) ∧ (((w.alloc o_0).alloc o_1).alloc o_2).drew.cell? ⟨p, 6, none⟩ = some (u15) ∧ (((w.alloc o_0).alloc o_1).alloc o_2).drew.cell? ⟨p, 7, none⟩ = some (u16) ∧ (((w.alloc o_0).alloc o_1).alloc o_2).drew.cell? ⟨p, 8, none⟩ = some (u17) := by
  obtain ⟨a0, a1, c0, c1, c2, c3, c4, c5, c6, c7, c8, c9, c10, c11, c12, c13, c14, c15, c16, c17⟩ := h
  exact ⟨kl_a3 a0, kl_a3 a1, kc_a3 a0 c0, kc_a3 a0 c1, kc_a3 a0 c2, kc_a3 a0 c3, kc_a3 a0 c4, kc_a3 a0 c5, kc_a3 a0 c6, kc_a3 a0 c7, kc_a3 a0 c8, kc_a3 a1 c9, kc_a3 a1 c10, kc_a3 a1 c11, kc_a3 a1 c12, kc_a3 a1 c13, kc_a3 a1 c14, kc_a3 a1 c15, kc_a3 a1 c16, kc_a3 a1 c17⟩

abbrev hX : Hd := (hx 27 [120] 0)
abbrev hOne : Hd := (hx 24 [] 1)
abbrev hSum : Hd := (hx 32 [43] 0)
abbrev hA : Hd := (hx 27 [97] 0)
abbrev hLess : Hd := (hx 32 [60] 0)
abbrev hRet : Hd := (hx 20 [] 0)
abbrev hBlk : Hd := (hx 10 [] 0)
abbrev hInt : Hd := (hx 7 [105, 110, 116] 0)
abbrev hBool : Hd := (hx 7 [98, 111, 111, 108] 0)
abbrev hFld : Hd := (hx 3 [97] 0)
abbrev hPar : Hd := (hx 5 [] 0)
abbrev hFun : Hd := (hx 4 [102] 0)
abbrev hNone : Hd := (hx 9 [] 0)
abbrev hVar : Hd := (hx 6 [120] 0)
abbrev hFile : Hd := (hx 1 [] 0)
abbrev fSum : Fo := .cons hX .nil (.cons hOne .nil .nil)
abbrev fLess : Fo := .cons hA .nil (.cons hSum fSum .nil)
abbrev fRet : Fo := .cons hLess fLess .nil
abbrev fBlk : Fo := .cons hRet fRet .nil
abbrev fFld : Fo := .cons hInt .nil .nil
abbrev fPar : Fo := .cons hFld fFld .nil
abbrev fFun : Fo := .cons hPar fPar (.cons hBool .nil (.cons hBlk fBlk .nil))
abbrev fVar : Fo := .cons hInt .nil (.cons hNone .nil .nil)
abbrev fFile : Fo := .cons hVar fVar (.cons hFun fFun .nil)
abbrev ad (g : Nat) : Option Addr := some ⟨g, 0, none⟩
/-- The blocks of the example. -/
structure Smp (w : World) (B g1 g2 g3 g4 g5 g6 g7 g8 g9 : Nat) : Prop where
  b1 : Blk w B g1 [lf hX, lf hOne]
  b2 : Blk w B g2 [lf hA, ⟨hSum, fSum, ad g1, 2⟩]
  b3 : Blk w B g3 [⟨hLess, fLess, ad g2, 2⟩]
  b4 : Blk w B g4 [⟨hRet, fRet, ad g3, 1⟩]
  b5 : Blk w B g5 [lf hInt]
  b6 : Blk w B g6 [⟨hFld, fFld, ad g5, 1⟩]
  b7 : Blk w B g7 [⟨hPar, fPar, ad g6, 1⟩, lf hBool, ⟨hBlk, fBlk, ad g4, 1⟩]
  b8 : Blk w B g8 [lf hInt, lf hNone]
  b9 : Blk w B g9 [⟨hVar, fVar, ad g8, 2⟩, ⟨hFun, fFun, ad g7, 3⟩]

theorem a1_0 {W : World} {o_0 : Obj} : (W.alloc o_0).heap[W.heap.size]? = some o_0 := by
  have := heap_alloc_new W o_0
  exact this
theorem d1_0 {W : World} {o_0 : Obj} : (W.alloc o_0).drew.heap[W.heap.size]? = some o_0 := a1_0

theorem a3_0 {W : World} {o_0 o_1 o_2 : Obj} : (((W.alloc o_0).alloc o_1).alloc o_2).heap[W.heap.size]? = some o_0 := by
  rw [Below.heap_alloc _ _ _ (by simp only [World.size_alloc]; omega)]
  rw [Below.heap_alloc _ _ _ (by simp only [World.size_alloc]; omega)]
  have := heap_alloc_new W o_0
  exact this
theorem d3_0 {W : World} {o_0 o_1 o_2 : Obj} : (((W.alloc o_0).alloc o_1).alloc o_2).drew.heap[W.heap.size]? = some o_0 := a3_0

theorem a3_1 {W : World} {o_0 o_1 o_2 : Obj} : (((W.alloc o_0).alloc o_1).alloc o_2).heap[W.heap.size + 1]? = some o_1 := by
  rw [Below.heap_alloc _ _ _ (by simp only [World.size_alloc]; omega)]
  have := heap_alloc_new (W.alloc o_0) o_1
  simp only [World.size_alloc] at this
  exact this
theorem d3_1 {W : World} {o_0 o_1 o_2 : Obj} : (((W.alloc o_0).alloc o_1).alloc o_2).drew.heap[W.heap.size + 1]? = some o_1 := a3_1

theorem a3_2 {W : World} {o_0 o_1 o_2 : Obj} : (((W.alloc o_0).alloc o_1).alloc o_2).heap[W.heap.size + 1 + 1]? = some o_2 := by
  have := heap_alloc_new ((W.alloc o_0).alloc o_1) o_2
  simp only [World.size_alloc] at this
  exact this
theorem d3_2 {W : World} {o_0 o_1 o_2 : Obj} : (((W.alloc o_0).alloc o_1).alloc o_2).drew.heap[W.heap.size + 1 + 1]? = some o_2 := a3_2

theorem a4_0 {W : World} {o_0 o_1 o_2 o_3 : Obj} : ((((W.alloc o_0).alloc o_1).alloc o_2).alloc o_3).heap[W.heap.size]? = some o_0 := by
  rw [Below.heap_alloc _ _ _ (by simp only [World.size_alloc]; omega)]
  rw [Below.heap_alloc _ _ _ (by simp only [World.size_alloc]; omega)]
  rw [Below.heap_alloc _ _ _ (by simp only [World.size_alloc]; omega)]
  have := heap_alloc_new W o_0
  exact this
theorem d4_0 {W : World} {o_0 o_1 o_2 o_3 : Obj} : ((((W.alloc o_0).alloc o_1).alloc o_2).alloc o_3).drew.heap[W.heap.size]? = some o_0 := a4_0

theorem a4_1 {W : World} {o_0 o_1 o_2 o_3 : Obj} : ((((W.alloc o_0).alloc o_1).alloc o_2).alloc o_3).heap[W.heap.size + 1]? = some o_1 := by
  rw [Below.heap_alloc _ _ _ (by simp only [World.size_alloc]; omega)]
  rw [Below.heap_alloc _ _ _ (by simp only [World.size_alloc]; omega)]
  have := heap_alloc_new (W.alloc o_0) o_1
  simp only [World.size_alloc] at this
  exact this
theorem d4_1 {W : World} {o_0 o_1 o_2 o_3 : Obj} : ((((W.alloc o_0).alloc o_1).alloc o_2).alloc o_3).drew.heap[W.heap.size + 1]? = some o_1 := a4_1

theorem a4_2 {W : World} {o_0 o_1 o_2 o_3 : Obj} : ((((W.alloc o_0).alloc o_1).alloc o_2).alloc o_3).heap[W.heap.size + 1 + 1]? = some o_2 := by
  rw [Below.heap_alloc _ _ _ (by simp only [World.size_alloc]; omega)]
  have := heap_alloc_new ((W.alloc o_0).alloc o_1) o_2
  simp only [World.size_alloc] at this
  exact this
theorem d4_2 {W : World} {o_0 o_1 o_2 o_3 : Obj} : ((((W.alloc o_0).alloc o_1).alloc o_2).alloc o_3).drew.heap[W.heap.size + 1 + 1]? = some o_2 := a4_2

theorem a4_3 {W : World} {o_0 o_1 o_2 o_3 : Obj} : ((((W.alloc o_0).alloc o_1).alloc o_2).alloc o_3).heap[W.heap.size + 1 + 1 + 1]? = some o_3 := by
  have := heap_alloc_new (((W.alloc o_0).alloc o_1).alloc o_2) o_3
  simp only [World.size_alloc] at this
  exact this
theorem d4_3 {W : World} {o_0 o_1 o_2 o_3 : Obj} : ((((W.alloc o_0).alloc o_1).alloc o_2).alloc o_3).drew.heap[W.heap.size + 1 + 1 + 1]? = some o_3 := a4_3

theorem ab1 {W : World} {o_0 : Obj} : Below W.heap.size W (W.alloc o_0) := ((Below.refl _ _).alloc (by (try simp only [World.size_alloc]); omega) _)
theorem db1 {W : World} {o_0 : Obj} : Below W.heap.size W (W.alloc o_0).drew := Below.drew ab1

theorem ab3 {W : World} {o_0 o_1 o_2 : Obj} : Below W.heap.size W (((W.alloc o_0).alloc o_1).alloc o_2) := ((((Below.refl _ _).alloc (by (try simp only [World.size_alloc]); omega) _).alloc (by (try simp only [World.size_alloc]); omega) _).alloc (by (try simp only [World.size_alloc]); omega) _)
theorem db3 {W : World} {o_0 o_1 o_2 : Obj} : Below W.heap.size W (((W.alloc o_0).alloc o_1).alloc o_2).drew := Below.drew ab3

theorem ab4 {W : World} {o_0 o_1 o_2 o_3 : Obj} : Below W.heap.size W ((((W.alloc o_0).alloc o_1).alloc o_2).alloc o_3) := (((((Below.refl _ _).alloc (by (try simp only [World.size_alloc]); omega) _).alloc (by (try simp only [World.size_alloc]); omega) _).alloc (by (try simp only [World.size_alloc]); omega) _).alloc (by (try simp only [World.size_alloc]); omega) _)
theorem db4 {W : World} {o_0 o_1 o_2 o_3 : Obj} : Below W.heap.size W ((((W.alloc o_0).alloc o_1).alloc o_2).alloc o_3).drew := Below.drew ab4

def Ini (w wx : World) : Prop := Below w.heap.size w wx ∧ wx.heap[w.heap.size]? = some (.cells nc0 26 (0, 0)) ∧ w.heap.size < wx.heap.size
theorem Ini.new (w : World) : Ini w (w.alloc (.cells nc0 26)) := ⟨(Below.refl _ _).alloc (Nat.le_refl _) _, heap_alloc_new w _, by simp⟩
theorem Ini.below {w wx wy : World} (h : Ini w wx) (hb : Below wx.heap.size wx wy) : Ini w wy :=
  ⟨h.1.trans (hb.mono (Nat.le_of_lt h.2.2)), (hb.block _ h.2.2).trans h.2.1, Nat.lt_of_lt_of_le h.2.2 hb.size⟩
theorem Ini.le {w wx : World} (h : Ini w wx) (n : Nat) : w.heap.size + 1 ≤ wx.heap.size + n := by have := h.2.2; omega
theorem Ini.cells {w wx : World} (h : Ini w wx) : (∀ i, i < 9 → ∃ v, wx.cell? ⟨w.heap.size, i, none⟩ = some v) ∧ ∀ i, wx.frozen? ⟨w.heap.size, i, none⟩ = false := by
  refine ⟨fun i hi => ?_, fun i => by simp [World.frozen?, h.2.1]⟩
  have e : wx.cell? ⟨w.heap.size, i, none⟩ = nc0[i]? := by simp [World.cell?, h.2.1]
  rw [e]
  exact ⟨_, Array.getElem?_eq_getElem (by exact hi)⟩

theorem smp_fin {w wc W : World} {g1 g2 g3 g4 g5 g6 g7 g8 : Nat} {v0 v1 v2 v3 v4 v5 v6 v7 v8 : Value} {cs : Array Value} (HI : Ini w wc) (k1 : Blk wc (w.heap.size + 1) g1 [lf hX, lf hOne]) (k2 : Blk wc (w.heap.size + 1) g2 [lf hA, ⟨hSum, fSum, ad g1, 2⟩]) (k3 : Blk wc (w.heap.size + 1) g3 [⟨hLess, fLess, ad g2, 2⟩]) (k4 : Blk wc (w.heap.size + 1) g4 [⟨hRet, fRet, ad g3, 1⟩]) (k5 : Blk wc (w.heap.size + 1) g5 [lf hInt]) (k6 : Blk wc (w.heap.size + 1) g6 [⟨hFld, fFld, ad g5, 1⟩]) (k7 : Blk wc (w.heap.size + 1) g7 [⟨hPar, fPar, ad g6, 1⟩, lf hBool, ⟨hBlk, fBlk, ad g4, 1⟩]) (k8 : Blk wc (w.heap.size + 1) g8 [lf hInt, lf hNone]) (hcs : cs = (ecells [⟨hVar, fVar, ad g8, 2⟩, ⟨hFun, fFun, ad g7, 3⟩]).toArray)
    (e : W = (((((((((wc.setCell ⟨w.heap.size, 0, none⟩ v0).setCell ⟨w.heap.size, 1, none⟩ v1).setCell ⟨w.heap.size, 2, none⟩ v2).setCell ⟨w.heap.size, 3, none⟩ v3).setCell ⟨w.heap.size, 4, none⟩ v4).setCell ⟨w.heap.size, 5, none⟩ v5).setCell ⟨w.heap.size, 6, none⟩ v6).setCell ⟨w.heap.size, 7, none⟩ v7).setCell ⟨w.heap.size, 8, none⟩ v8)) : Smp (W.alloc (.cells cs 26)) w.heap.size g1 g2 g3 g4 g5 g6 g7 g8 wc.heap.size ∧ Below w.heap.size w (W.alloc (.cells cs 26)) := by
  have n9 := nine w wc w.heap.size v0 v1 v2 v3 v4 v5 v6 v7 v8 e
  have hz : W.heap.size = wc.heap.size := n9.2.1
  have hk : ∀ x, x ≠ w.heap.size → x < wc.heap.size → (W.alloc (.cells cs 26)).heap[x]? = wc.heap[x]? := fun x hx hl => (Below.heap_alloc _ _ _ (by omega)).trans (n9.1 x hx)
  have kk : ∀ {g : Nat} {l : List El}, Blk wc (w.heap.size + 1) g l → Blk (W.alloc (.cells cs 26)) w.heap.size g l := fun {g l} h => ⟨(hk g (by have := h.2; omega) h.lt).trans h.1, by have := h.2; omega⟩
  have hl := HI.2.2
  have h9 := heap_alloc_new W (.cells cs 26)
  rw [hz] at h9
  subst hcs
  exact ⟨⟨kk k1, kk k2, kk k3, kk k4, kk k5, kk k6, kk k7, kk k8, ⟨h9, by omega⟩⟩, (n9.2.2 HI.1 (Nat.le_refl _)).alloc (by omega) _⟩

theorem nine_sz {wr W : World} {r : Nat} {v0 v1 v2 v3 v4 v5 v6 v7 v8 : Value} (e : (((((((((wr.setCell ⟨r, 0, none⟩ v0).setCell ⟨r, 1, none⟩ v1).setCell ⟨r, 2, none⟩ v2).setCell ⟨r, 3, none⟩ v3).setCell ⟨r, 4, none⟩ v4).setCell ⟨r, 5, none⟩ v5).setCell ⟨r, 6, none⟩ v6).setCell ⟨r, 7, none⟩ v7).setCell ⟨r, 8, none⟩ v8) = W) : W.heap.size = wr.heap.size := by
  subst e
  simp only [World.size_setCell]

theorem nine_at {wr W : World} {r : Nat} {v0 v1 v2 v3 v4 v5 v6 v7 v8 : Value} (h : wr.heap[r]? = some (.cells nc0 26 (0, 0))) (e : (((((((((wr.setCell ⟨r, 0, none⟩ v0).setCell ⟨r, 1, none⟩ v1).setCell ⟨r, 2, none⟩ v2).setCell ⟨r, 3, none⟩ v3).setCell ⟨r, 4, none⟩ v4).setCell ⟨r, 5, none⟩ v5).setCell ⟨r, 6, none⟩ v6).setCell ⟨r, 7, none⟩ v7).setCell ⟨r, 8, none⟩ v8) = W) : W.heap[r]? = some (.cells #[v0, v1, v2, v3, v4, v5, v6, v7, v8] 26 (0, 0)) := by
  subst e
  simp [World.setCell, Array.getElem?_modify, h]
theorem res18 {tmps : Array Value} {W : World} {r : Nat} {v0 v1 v2 v3 v4 v5 v6 v7 v8 : Value} (ht : tmps.getD 0 undef = pt r) (h : W.heap[r]? = some (.cells #[v0, v1, v2, v3, v4, v5, v6, v7, v8] 26 (0, 0))) :
    (results Tryz.f18 tmps).run Tryz.prog W = .ok (.agg #[v0, v1, v2, v3, v4, v5, v6, v7, v8]) W := by
  have c0 : W.cell? ⟨r, 0, none⟩ = some v0 := by simp [World.cell?, h]
  have c1 : W.cell? ⟨r, 1, none⟩ = some v1 := by simp [World.cell?, h]
  have c2 : W.cell? ⟨r, 2, none⟩ = some v2 := by simp [World.cell?, h]
  have c3 : W.cell? ⟨r, 3, none⟩ = some v3 := by simp [World.cell?, h]
  have c4 : W.cell? ⟨r, 4, none⟩ = some v4 := by simp [World.cell?, h]
  have c5 : W.cell? ⟨r, 5, none⟩ = some v5 := by simp [World.cell?, h]
  have c6 : W.cell? ⟨r, 6, none⟩ = some v6 := by simp [World.cell?, h]
  have c7 : W.cell? ⟨r, 7, none⟩ = some v7 := by simp [World.cell?, h]
  have c8 : W.cell? ⟨r, 8, none⟩ = some v8 := by simp [World.cell?, h]
  simp only [Array.getD_eq_getD_getElem?] at ht
  simp [results, Tryz.results18, go_sem, ht, c0, c1, c2, c3, c4, c5, c6, c7, c8]


set_option maxRecDepth 100000 in
set_option maxHeartbeats 16000000 in
theorem sample_any (w : World) : Calls Tryz.prog 18 #[] w fun e w' => ∃ g1 g2 g3 g4 g5 g6 g7 g8 g9, e = .returned (nv hFile (ad g9) 2 2) ∧ Smp w' w.heap.size g1 g2 g3 g4 g5 g6 g7 g8 g9 ∧ Below w.heap.size w w' := by
  go_enter Tryz.func18, Tryz.ntmps18
  go_upto_region 0 with (fail)
  go_cut [0] (fun s0 wx => s0 = pt w.heap.size ∧ Ini w wx)
  case first =>
    go_wp2
    go_meet
    exact ⟨rfl, Ini.new w⟩
  case rest =>
  obtain ⟨rfl, hi⟩ := hcut
  have HI := Lib.hid hi
  clear hi
  go_upto_region 1 with (fail)
  go_cut [1] (fun s1 wx => ∃ g1 b1 : Nat, s1 = pt b1 ∧ Ini w wx ∧ Nb wx b1 hSum (ad g1) 2 2 ∧ Blk wx (w.heap.size + 1) g1 [lf hX, lf hOne])
  case first =>
    go_wp2_with (go_at_call 31; refine (name_any _ _).mono ?_; rintro e w1 ⟨rfl, rfl⟩)
    go_meet
    exact ⟨_, _, rfl, HI.out.below (by first | exact ab1 | exact ab3 | exact db3 | exact ab4), (by first | exact a4_0 | exact a4_1 | exact a4_2 | exact a4_3 | exact d3_0 | exact d3_1 | exact d3_2 | exact a3_0 | exact a3_1 | exact a3_2 | exact a1_0), ⟨(by first | exact a4_0 | exact a4_1 | exact a4_2 | exact a4_3 | exact d3_0 | exact d3_1 | exact d3_2 | exact a3_0 | exact a3_1 | exact a3_2 | exact a1_0), (by first | exact HI.out.le 0 | exact HI.out.le 1 | exact HI.out.le 2 | exact HI.out.le 3)⟩⟩
  case rest =>
  obtain ⟨g1, b1, rfl, hi, n1, k1⟩ := hcut
  have HI := Lib.hid hi
  clear hi
  have K1 := Lib.hid k1
  clear k1
  have N1 := Lib.hid n1
  clear n1
  go_upto_region 2 with (fail)
  go_cut [2] (fun s2 wx => ∃ g2 b2 : Nat, s2 = pt b2 ∧ Ini w wx ∧ Nb wx b2 hLess (ad g2) 2 2 ∧ Blk wx (w.heap.size + 1) g2 [lf hA, ⟨hSum, fSum, ad g1, 2⟩] ∧ Blk wx (w.heap.size + 1) g1 [lf hX, lf hOne])
  case first =>
    obtain ⟨x10, x11, x12, x13, x14, x15, x16, x17, x18⟩ := N1.out.cells
    have l1 := N1.out.lt
    have HSF : Hid (S1 b1 (.int .i64 hSum.kind) (.string hSum.text) (.int .i64 hSum.num) (.int .i64 hSum.pos) (.slice (some ⟨g1, 0, none⟩) 2 2) (.int .i64 hSum.tk) (.string hSum.tn) (.int .i64 hSum.ref) (.int .i64 hSum.up) wc) := Lib.hid ⟨l1, x10, x11, x12, x13, x14, x15, x16, x17, x18⟩
    go_region_held3 (fun w' => b1 < w'.heap.size ∧ w'.cell? ⟨b1, 0, none⟩ = some (.int .i64 hSum.kind) ∧ w'.cell? ⟨b1, 1, none⟩ = some (.string hSum.text) ∧ w'.cell? ⟨b1, 2, none⟩ = some (.int .i64 hSum.num) ∧ w'.cell? ⟨b1, 3, none⟩ = some (.int .i64 hSum.pos) ∧ w'.cell? ⟨b1, 4, none⟩ = some (.slice (some ⟨g1, 0, none⟩) 2 2) ∧ w'.cell? ⟨b1, 5, none⟩ = some (.int .i64 hSum.tk) ∧ w'.cell? ⟨b1, 6, none⟩ = some (.string hSum.tn) ∧ w'.cell? ⟨b1, 7, none⟩ = some (.int .i64 hSum.ref) ∧ w'.cell? ⟨b1, 8, none⟩ = some (.int .i64 hSum.up))
      (first | exact HSF.out.al0 | exact HSF.out.al1 _ | exact HSF.out.al2 _ _ | exact HSF.out.al3 _ _ _) ((go_at_call 31; refine (name_any _ _).mono ?_; rintro e w1 ⟨rfl, rfl⟩))
    all_goals (go_wp2_with fail; go_meet; exact ⟨_, _, rfl, HI.out.below (by first | exact ab1 | exact ab3 | exact db3 | exact ab4), (by first | exact a4_0 | exact a4_1 | exact a4_2 | exact a4_3 | exact d3_0 | exact d3_1 | exact d3_2 | exact a3_0 | exact a3_1 | exact a3_2 | exact a1_0), ⟨(by first | exact a4_0 | exact a4_1 | exact a4_2 | exact a4_3 | exact d3_0 | exact d3_1 | exact d3_2 | exact a3_0 | exact a3_1 | exact a3_2 | exact a1_0), (by first | exact HI.out.le 0 | exact HI.out.le 1 | exact HI.out.le 2 | exact HI.out.le 3)⟩, K1.out.below (by first | exact ab1 | exact ab3 | exact db3 | exact ab4)⟩)
  case rest =>
  obtain ⟨g2, b2, rfl, hi, n2, k2, k1⟩ := hcut
  have HI := Lib.hid hi
  clear hi
  have K1 := Lib.hid k1
  clear k1
  have K2 := Lib.hid k2
  clear k2
  have N2 := Lib.hid n2
  clear n2
  go_upto_region 3 with (fail)
  go_cut [3] (fun s3 wx => ∃ g3 g4 b3 : Nat, s3 = pt b3 ∧ Ini w wx ∧ Nb wx b3 hBlk (ad g4) 1 1 ∧ Blk wx (w.heap.size + 1) g4 [⟨hRet, fRet, ad g3, 1⟩] ∧ Blk wx (w.heap.size + 1) g3 [⟨hLess, fLess, ad g2, 2⟩] ∧ Blk wx (w.heap.size + 1) g1 [lf hX, lf hOne] ∧ Blk wx (w.heap.size + 1) g2 [lf hA, ⟨hSum, fSum, ad g1, 2⟩])
  case first =>
    obtain ⟨x20, x21, x22, x23, x24, x25, x26, x27, x28⟩ := N2.out.cells
    have l2 := N2.out.lt
    go_wp2_with fail
    go_meet
    exact ⟨_, _, _, rfl, HI.out.below (by first | exact ab1 | exact ab3 | exact db3 | exact ab4), (by first | exact a4_0 | exact a4_1 | exact a4_2 | exact a4_3 | exact d3_0 | exact d3_1 | exact d3_2 | exact a3_0 | exact a3_1 | exact a3_2 | exact a1_0), ⟨(by first | exact a4_0 | exact a4_1 | exact a4_2 | exact a4_3 | exact d3_0 | exact d3_1 | exact d3_2 | exact a3_0 | exact a3_1 | exact a3_2 | exact a1_0), (by first | exact HI.out.le 0 | exact HI.out.le 1 | exact HI.out.le 2 | exact HI.out.le 3)⟩, ⟨(by first | exact a4_0 | exact a4_1 | exact a4_2 | exact a4_3 | exact d3_0 | exact d3_1 | exact d3_2 | exact a3_0 | exact a3_1 | exact a3_2 | exact a1_0), (by first | exact HI.out.le 0 | exact HI.out.le 1 | exact HI.out.le 2 | exact HI.out.le 3)⟩, K1.out.below (by first | exact ab1 | exact ab3 | exact db3 | exact ab4), K2.out.below (by first | exact ab1 | exact ab3 | exact db3 | exact ab4)⟩
  case rest =>
  obtain ⟨g3, g4, b3, rfl, hi, n3, k4, k3, k1, k2⟩ := hcut
  have HI := Lib.hid hi
  clear hi
  have K1 := Lib.hid k1
  clear k1
  have K2 := Lib.hid k2
  clear k2
  have K3 := Lib.hid k3
  clear k3
  have K4 := Lib.hid k4
  clear k4
  have N3 := Lib.hid n3
  clear n3
  go_upto_region 4 with (fail)
  go_cut [4] (fun s4 wx => ∃ g5 g6 b4 : Nat, s4 = pt b4 ∧ Ini w wx ∧ Nb wx b4 hPar (ad g6) 1 1 ∧ Blk wx (w.heap.size + 1) g6 [⟨hFld, fFld, ad g5, 1⟩] ∧ Blk wx (w.heap.size + 1) g5 [lf hInt] ∧ Blk wx (w.heap.size + 1) g1 [lf hX, lf hOne] ∧ Blk wx (w.heap.size + 1) g2 [lf hA, ⟨hSum, fSum, ad g1, 2⟩] ∧ Blk wx (w.heap.size + 1) g3 [⟨hLess, fLess, ad g2, 2⟩] ∧ Blk wx (w.heap.size + 1) g4 [⟨hRet, fRet, ad g3, 1⟩] ∧ Nb wx b3 hBlk (ad g4) 1 1)
  case first =>
    go_wp2_with (go_at_call 32; refine (typed_any _ _).mono ?_; rintro e w1 ⟨rfl, rfl⟩)
    go_meet
    exact ⟨_, _, _, rfl, HI.out.below (by first | exact ab1 | exact ab3 | exact db3 | exact ab4), (by first | exact a4_0 | exact a4_1 | exact a4_2 | exact a4_3 | exact d3_0 | exact d3_1 | exact d3_2 | exact a3_0 | exact a3_1 | exact a3_2 | exact a1_0), ⟨(by first | exact a4_0 | exact a4_1 | exact a4_2 | exact a4_3 | exact d3_0 | exact d3_1 | exact d3_2 | exact a3_0 | exact a3_1 | exact a3_2 | exact a1_0), (by first | exact HI.out.le 0 | exact HI.out.le 1 | exact HI.out.le 2 | exact HI.out.le 3)⟩, ⟨(by first | exact a4_0 | exact a4_1 | exact a4_2 | exact a4_3 | exact d3_0 | exact d3_1 | exact d3_2 | exact a3_0 | exact a3_1 | exact a3_2 | exact a1_0), (by first | exact HI.out.le 0 | exact HI.out.le 1 | exact HI.out.le 2 | exact HI.out.le 3)⟩, K1.out.below (by first | exact ab1 | exact ab3 | exact db3 | exact ab4), K2.out.below (by first | exact ab1 | exact ab3 | exact db3 | exact ab4), K3.out.below (by first | exact ab1 | exact ab3 | exact db3 | exact ab4), K4.out.below (by first | exact ab1 | exact ab3 | exact db3 | exact ab4), N3.out.below (by first | exact ab1 | exact ab3 | exact db3 | exact ab4)⟩
  case rest =>
  obtain ⟨g5, g6, b4, rfl, hi, n4, k6, k5, k1, k2, k3, k4, n3⟩ := hcut
  have HI := Lib.hid hi
  clear hi
  have K1 := Lib.hid k1
  clear k1
  have K2 := Lib.hid k2
  clear k2
  have K3 := Lib.hid k3
  clear k3
  have K4 := Lib.hid k4
  clear k4
  have K5 := Lib.hid k5
  clear k5
  have K6 := Lib.hid k6
  clear k6
  have N3 := Lib.hid n3
  clear n3
  have N4 := Lib.hid n4
  clear n4
  go_upto_region 5 with (fail)
  go_cut [5] (fun s5 wx => ∃ g7 b5 : Nat, s5 = pt b5 ∧ Ini w wx ∧ Nb wx b5 hFun (ad g7) 3 3 ∧ Blk wx (w.heap.size + 1) g7 [⟨hPar, fPar, ad g6, 1⟩, lf hBool, ⟨hBlk, fBlk, ad g4, 1⟩] ∧ Blk wx (w.heap.size + 1) g1 [lf hX, lf hOne] ∧ Blk wx (w.heap.size + 1) g2 [lf hA, ⟨hSum, fSum, ad g1, 2⟩] ∧ Blk wx (w.heap.size + 1) g3 [⟨hLess, fLess, ad g2, 2⟩] ∧ Blk wx (w.heap.size + 1) g4 [⟨hRet, fRet, ad g3, 1⟩] ∧ Blk wx (w.heap.size + 1) g5 [lf hInt] ∧ Blk wx (w.heap.size + 1) g6 [⟨hFld, fFld, ad g5, 1⟩])
  case first =>
    obtain ⟨x40, x41, x42, x43, x44, x45, x46, x47, x48⟩ := N4.out.cells
    have l4 := N4.out.lt
    obtain ⟨x30, x31, x32, x33, x34, x35, x36, x37, x38⟩ := N3.out.cells
    have l3 := N3.out.lt
    have HSF : Hid (S2 b4 b3 (.int .i64 hPar.kind) (.string hPar.text) (.int .i64 hPar.num) (.int .i64 hPar.pos) (.slice (some ⟨g6, 0, none⟩) 1 1) (.int .i64 hPar.tk) (.string hPar.tn) (.int .i64 hPar.ref) (.int .i64 hPar.up) (.int .i64 hBlk.kind) (.string hBlk.text) (.int .i64 hBlk.num) (.int .i64 hBlk.pos) (.slice (some ⟨g4, 0, none⟩) 1 1) (.int .i64 hBlk.tk) (.string hBlk.tn) (.int .i64 hBlk.ref) (.int .i64 hBlk.up) wc) := Lib.hid ⟨l4, l3, x40, x41, x42, x43, x44, x45, x46, x47, x48, x30, x31, x32, x33, x34, x35, x36, x37, x38⟩
    go_region_held3 (fun w' => b4 < w'.heap.size ∧ b3 < w'.heap.size ∧ w'.cell? ⟨b4, 0, none⟩ = some (.int .i64 hPar.kind) ∧ w'.cell? ⟨b4, 1, none⟩ = some (.string hPar.text) ∧ w'.cell? ⟨b4, 2, none⟩ = some (.int .i64 hPar.num) ∧ w'.cell? ⟨b4, 3, none⟩ = some (.int .i64 hPar.pos) ∧ w'.cell? ⟨b4, 4, none⟩ = some (.slice (some ⟨g6, 0, none⟩) 1 1) ∧ w'.cell? ⟨b4, 5, none⟩ = some (.int .i64 hPar.tk) ∧ w'.cell? ⟨b4, 6, none⟩ = some (.string hPar.tn) ∧ w'.cell? ⟨b4, 7, none⟩ = some (.int .i64 hPar.ref) ∧ w'.cell? ⟨b4, 8, none⟩ = some (.int .i64 hPar.up) ∧ w'.cell? ⟨b3, 0, none⟩ = some (.int .i64 hBlk.kind) ∧ w'.cell? ⟨b3, 1, none⟩ = some (.string hBlk.text) ∧ w'.cell? ⟨b3, 2, none⟩ = some (.int .i64 hBlk.num) ∧ w'.cell? ⟨b3, 3, none⟩ = some (.int .i64 hBlk.pos) ∧ w'.cell? ⟨b3, 4, none⟩ = some (.slice (some ⟨g4, 0, none⟩) 1 1) ∧ w'.cell? ⟨b3, 5, none⟩ = some (.int .i64 hBlk.tk) ∧ w'.cell? ⟨b3, 6, none⟩ = some (.string hBlk.tn) ∧ w'.cell? ⟨b3, 7, none⟩ = some (.int .i64 hBlk.ref) ∧ w'.cell? ⟨b3, 8, none⟩ = some (.int .i64 hBlk.up))
      (first | exact HSF.out.al0 | exact HSF.out.al1 _ | exact HSF.out.al2 _ _ | exact HSF.out.al3 _ _ _) ((go_at_call 32; refine (typed_any _ _).mono ?_; rintro e w1 ⟨rfl, rfl⟩))
    all_goals (go_wp2_with fail; go_meet; exact ⟨_, _, rfl, HI.out.below (by first | exact ab1 | exact ab3 | exact db3 | exact ab4), (by first | exact a4_0 | exact a4_1 | exact a4_2 | exact a4_3 | exact d3_0 | exact d3_1 | exact d3_2 | exact a3_0 | exact a3_1 | exact a3_2 | exact a1_0), ⟨(by first | exact a4_0 | exact a4_1 | exact a4_2 | exact a4_3 | exact d3_0 | exact d3_1 | exact d3_2 | exact a3_0 | exact a3_1 | exact a3_2 | exact a1_0), (by first | exact HI.out.le 0 | exact HI.out.le 1 | exact HI.out.le 2 | exact HI.out.le 3)⟩, K1.out.below (by first | exact ab1 | exact ab3 | exact db3 | exact ab4), K2.out.below (by first | exact ab1 | exact ab3 | exact db3 | exact ab4), K3.out.below (by first | exact ab1 | exact ab3 | exact db3 | exact ab4), K4.out.below (by first | exact ab1 | exact ab3 | exact db3 | exact ab4), K5.out.below (by first | exact ab1 | exact ab3 | exact db3 | exact ab4), K6.out.below (by first | exact ab1 | exact ab3 | exact db3 | exact ab4)⟩)
  case rest =>
  obtain ⟨g7, b5, rfl, hi, n5, k7, k1, k2, k3, k4, k5, k6⟩ := hcut
  have HI := Lib.hid hi
  clear hi
  have K1 := Lib.hid k1
  clear k1
  have K2 := Lib.hid k2
  clear k2
  have K3 := Lib.hid k3
  clear k3
  have K4 := Lib.hid k4
  clear k4
  have K5 := Lib.hid k5
  clear k5
  have K6 := Lib.hid k6
  clear k6
  have K7 := Lib.hid k7
  clear k7
  have N5 := Lib.hid n5
  clear n5
  go_upto_region 6 with (fail)
  go_cut [6] (fun s6 wx => ∃ g8 b6 : Nat, s6 = pt b6 ∧ Ini w wx ∧ Nb wx b6 hVar (ad g8) 2 2 ∧ Blk wx (w.heap.size + 1) g8 [lf hInt, lf hNone] ∧ Blk wx (w.heap.size + 1) g1 [lf hX, lf hOne] ∧ Blk wx (w.heap.size + 1) g2 [lf hA, ⟨hSum, fSum, ad g1, 2⟩] ∧ Blk wx (w.heap.size + 1) g3 [⟨hLess, fLess, ad g2, 2⟩] ∧ Blk wx (w.heap.size + 1) g4 [⟨hRet, fRet, ad g3, 1⟩] ∧ Blk wx (w.heap.size + 1) g5 [lf hInt] ∧ Blk wx (w.heap.size + 1) g6 [⟨hFld, fFld, ad g5, 1⟩] ∧ Blk wx (w.heap.size + 1) g7 [⟨hPar, fPar, ad g6, 1⟩, lf hBool, ⟨hBlk, fBlk, ad g4, 1⟩] ∧ Nb wx b5 hFun (ad g7) 3 3)
  case first =>
    go_wp2_with (go_at_call 32; refine (typed_any _ _).mono ?_; rintro e w1 ⟨rfl, rfl⟩)
    go_meet
    exact ⟨_, _, rfl, HI.out.below (by first | exact ab1 | exact ab3 | exact db3 | exact ab4), (by first | exact a4_0 | exact a4_1 | exact a4_2 | exact a4_3 | exact d3_0 | exact d3_1 | exact d3_2 | exact a3_0 | exact a3_1 | exact a3_2 | exact a1_0), ⟨(by first | exact a4_0 | exact a4_1 | exact a4_2 | exact a4_3 | exact d3_0 | exact d3_1 | exact d3_2 | exact a3_0 | exact a3_1 | exact a3_2 | exact a1_0), (by first | exact HI.out.le 0 | exact HI.out.le 1 | exact HI.out.le 2 | exact HI.out.le 3)⟩, K1.out.below (by first | exact ab1 | exact ab3 | exact db3 | exact ab4), K2.out.below (by first | exact ab1 | exact ab3 | exact db3 | exact ab4), K3.out.below (by first | exact ab1 | exact ab3 | exact db3 | exact ab4), K4.out.below (by first | exact ab1 | exact ab3 | exact db3 | exact ab4), K5.out.below (by first | exact ab1 | exact ab3 | exact db3 | exact ab4), K6.out.below (by first | exact ab1 | exact ab3 | exact db3 | exact ab4), K7.out.below (by first | exact ab1 | exact ab3 | exact db3 | exact ab4), N5.out.below (by first | exact ab1 | exact ab3 | exact db3 | exact ab4)⟩
  case rest =>
  obtain ⟨g8, b6, rfl, hi, n6, k8, k1, k2, k3, k4, k5, k6, k7, n5⟩ := hcut
  have HI := Lib.hid hi
  clear hi
  have K1 := Lib.hid k1
  clear k1
  have K2 := Lib.hid k2
  clear k2
  have K3 := Lib.hid k3
  clear k3
  have K4 := Lib.hid k4
  clear k4
  have K5 := Lib.hid k5
  clear k5
  have K6 := Lib.hid k6
  clear k6
  have K7 := Lib.hid k7
  clear k7
  have K8 := Lib.hid k8
  clear k8
  have N5 := Lib.hid n5
  clear n5
  have N6 := Lib.hid n6
  clear n6
  obtain ⟨x60, x61, x62, x63, x64, x65, x66, x67, x68⟩ := N6.out.cells
  obtain ⟨x50, x51, x52, x53, x54, x55, x56, x57, x58⟩ := N5.out.cells
  have l6 := N6.out.lt
  have l5 := N5.out.lt
  have l0 := HI.out.2.2
  have l1 : w.heap.size < wc.heap.size + 1 := by omega
  have e0 := HI.out.2.1
  have y0 : wc.cell? ⟨w.heap.size, 0, none⟩ = some (.int .i64 0) := by simp [World.cell?, e0]
  have f0 : wc.frozen? ⟨w.heap.size, 0, none⟩ = false := by simp [World.frozen?, e0]
  have y1 : wc.cell? ⟨w.heap.size, 1, none⟩ = some (.string ⟨#[]⟩) := by simp [World.cell?, e0]
  have f1 : wc.frozen? ⟨w.heap.size, 1, none⟩ = false := by simp [World.frozen?, e0]
  have y2 : wc.cell? ⟨w.heap.size, 2, none⟩ = some (.int .i64 0) := by simp [World.cell?, e0]
  have f2 : wc.frozen? ⟨w.heap.size, 2, none⟩ = false := by simp [World.frozen?, e0]
  have y3 : wc.cell? ⟨w.heap.size, 3, none⟩ = some (.int .i64 0) := by simp [World.cell?, e0]
  have f3 : wc.frozen? ⟨w.heap.size, 3, none⟩ = false := by simp [World.frozen?, e0]
  have y4 : wc.cell? ⟨w.heap.size, 4, none⟩ = some (.slice none 0 0) := by simp [World.cell?, e0]
  have f4 : wc.frozen? ⟨w.heap.size, 4, none⟩ = false := by simp [World.frozen?, e0]
  have y5 : wc.cell? ⟨w.heap.size, 5, none⟩ = some (.int .i64 0) := by simp [World.cell?, e0]
  have f5 : wc.frozen? ⟨w.heap.size, 5, none⟩ = false := by simp [World.frozen?, e0]
  have y6 : wc.cell? ⟨w.heap.size, 6, none⟩ = some (.string ⟨#[]⟩) := by simp [World.cell?, e0]
  have f6 : wc.frozen? ⟨w.heap.size, 6, none⟩ = false := by simp [World.frozen?, e0]
  have y7 : wc.cell? ⟨w.heap.size, 7, none⟩ = some (.int .i64 0) := by simp [World.cell?, e0]
  have f7 : wc.frozen? ⟨w.heap.size, 7, none⟩ = false := by simp [World.frozen?, e0]
  have y8 : wc.cell? ⟨w.heap.size, 8, none⟩ = some (.int .i64 0) := by simp [World.cell?, e0]
  have f8 : wc.frozen? ⟨w.heap.size, 8, none⟩ = false := by simp [World.frozen?, e0]
  clear e0
  go_wp2
  generalize hW : World.setCell _ _ _ = W
  refine bodyPost_ret (v := nv hFile (ad wc.heap.size) 2 2) (res18 (r := w.heap.size) rfl ((Below.heap_alloc _ _ _ (by have := (nine_sz hW); omega)).trans (nine_at HI.out.2.1 hW))) rfl ?_
  refine ⟨g1, g2, g3, g4, g5, g6, g7, g8, wc.heap.size, rfl, ?_⟩
  exact smp_fin HI.out K1.out K2.out K3.out K4.out K5.out K6.out K7.out K8.out rfl hW.symm
end Go.Proofs.YticbcnhbpbaocaaGreatDoor
