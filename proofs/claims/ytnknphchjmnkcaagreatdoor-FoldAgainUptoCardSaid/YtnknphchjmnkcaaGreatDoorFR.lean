/-
  The walk of the law's own printed (package interleavelaw07).
-/
import Derived.Test.YtnknphchjmnkcaaGreatDoorFQ
set_option linter.all false
namespace Go.Proofs.YtnknphchjmnkcaaGreatDoor
open Go.RowKit T T.Fo
set_option maxRecDepth 100000 in
set_option maxHeartbeats 4000000 in
theorem printed_w (hf : Hd) (g1 o1 c1 g2 o2 c2 g3 o3 c3 g4 o4 c4 : Nat) (w : World) (h : Hd) (A : Option Addr) (n c : Nat) (l1 : g1 < w.heap.size) (l2 : g2 < w.heap.size) (l3 : g3 < w.heap.size) (l4 : g4 < w.heap.size)
    (x1 : w.cell? ⟨g1, o1 + 4, none⟩ = some (.slice (some ⟨g2, o2, none⟩) 3 c2)) (x2 : w.cell? ⟨g2, o2 + 18 + 4, none⟩ = some (.slice (some ⟨g3, o3, none⟩) 1 c3)) (x3 : w.cell? ⟨g3, o3 + 4, none⟩ = some (.slice (some ⟨g4, o4, none⟩) 1 c4)) (x4 : At9 w g4 o4 h A n c) :
    Calls Tryz.prog 25 #[nv hf (some ⟨g1, o1, none⟩) 1 c1] w fun e w' => e = .returned (nv h A n c) ∧ Below w.heap.size w w' := by
  obtain ⟨d0, d1, d2, d3, d4, d5, d6, d7, d8⟩ := x4
  have e1 : ¬ g1 = w.heap.size := by omega
  have e2 : ¬ g2 = w.heap.size := by omega
  have e3 : ¬ g3 = w.heap.size := by omega
  have e4 : ¬ g4 = w.heap.size := by omega
  have i1 : ¬ g1 = w.heap.size + 1 := by omega
  have i2 : ¬ g2 = w.heap.size + 1 := by omega
  have i3 : ¬ g3 = w.heap.size + 1 := by omega
  have i4 : ¬ g4 = w.heap.size + 1 := by omega
  have m1 : g1 < w.heap.size + 1 := by omega
  have m2 : g2 < w.heap.size + 1 := by omega
  have m3 : g3 < w.heap.size + 1 := by omega
  have m4 : g4 < w.heap.size + 1 := by omega
  go_enter Tryz.func25, Tryz.ntmps25
  go_wp2
  refine ret_cell Tryz.results25 (r := w.heap.size + 1) (h := h) (A := A) (n := n) (c := c) rfl rfl (alloc_at (by simp only [World.size_alloc])) ⟨rfl, fbel1 (fb1 _ _)⟩
theorem printed_any (hf : Hd) (h : Hd) (k : Fo) (A : Option Addr) (c : Nat) (w : World) (hk : Kids (Lt w.heap.size) w A (prK h k)) : Calls Tryz.prog 25 #[nv hf A 1 c] w (Got h k w) := by
  obtain ⟨g1, o1, A1, c1, rfl, d1, k1, l1⟩ := kids1 hk
  obtain ⟨g2, o2, A2, c2, A3, c3, A4, c4, rfl, _, _, _, _, d2, k2, l2, _, _⟩ := kids3S (S := Lt w.heap.size) k1
  obtain ⟨g3, o3, A5, c5, rfl, d3, k3, l3⟩ := kids1 k2
  obtain ⟨g4, o4, A6, c6, hc, e9, hc6, hk6, _, _, l4⟩ := (Rest.start k3).next
  rw [show o4 + 0 * 9 = o4 by omega] at e9
  subst hc
  exact (printed_w hf g1 o1 c g2 o2 c1 g3 o3 c4 g4 o4 c5 w h A6 k.len c6 l1 l2 l3 l4 d1.c4 d2.c4 d3.c4 e9).mono fun e w' H => ⟨A6, c6, H.1, hc6, kidsV hk6 H.2, H.2⟩

end Go.Proofs.YtnknphchjmnkcaaGreatDoor
