/-
  The walks of semicolon and comment.
-/
import Derived.Test.YtaalgkcbknlccaaDoorW4
namespace Go.Proofs.YtaalgkcbknlccaaDoor
open Go.RowKit M

/-- A result's box is filled. -/
theorem box_done {w W : World} {C D a' : Nat} {s : ByteArray} {b : Bool} {x0 x1 x2 : Value} (v0 v1 v2 : Value) (h : Sc W C s a' b) (g : w.grownBy W (some C)) (q : W.heap[D]? = some (.cells #[x0, x1, x2] 33 (0, 0))) (hD : w.heap.size ≤ D) (hne : C ≠ D) :
    (Sc (((W.setCell ⟨D, 0, none⟩ v0).setCell ⟨D, 1, none⟩ v1).setCell ⟨D, 2, none⟩ v2) C s a' b ∧ w.grownBy (((W.setCell ⟨D, 0, none⟩ v0).setCell ⟨D, 1, none⟩ v1).setCell ⟨D, 2, none⟩ v2) (some C)) ∧
    (((W.setCell ⟨D, 0, none⟩ v0).setCell ⟨D, 1, none⟩ v1).setCell ⟨D, 2, none⟩ v2).cell? ⟨D, 0, none⟩ = some v0 ∧
    (((W.setCell ⟨D, 0, none⟩ v0).setCell ⟨D, 1, none⟩ v1).setCell ⟨D, 2, none⟩ v2).cell? ⟨D, 1, none⟩ = some v1 ∧
    (((W.setCell ⟨D, 0, none⟩ v0).setCell ⟨D, 1, none⟩ v1).setCell ⟨D, 2, none⟩ v2).cell? ⟨D, 2, none⟩ = some v2 := by
  refine ⟨⟨((h.far (p := ⟨D, 0, none⟩) hne v0).far (p := ⟨D, 1, none⟩) hne v1).far (p := ⟨D, 2, none⟩) hne v2, only_set (p := ⟨D, 2, none⟩) (only_set (p := ⟨D, 1, none⟩) (only_set (p := ⟨D, 0, none⟩) g (.inr hD) v0) (.inr hD) v1) (.inr hD) v2⟩, ?_⟩
  exact cell3 (set3 q v0 v1 v2)

/-- The box behind a call. -/
theorem box_behind {w w1 : World} {C : Nat} (hC : C < w.heap.size) (g : (w.alloc box0).grownBy w1 (some C)) :
    w1.heap[w.heap.size]? = some box0 ∧ w.grownBy w1 (some C) ∧ w.heap.size < w1.heap.size ∧ C < w1.heap.size := by
  have hs := g.size
  rw [size_alloc] at hs
  refine ⟨(g.block _ (by rw [size_alloc]; omega) (fun e => by cases e; omega)).trans (heap_alloc_new w box0), only_trans (only_alloc (only_refl w C) box0) g, by omega, by omega⟩
theorem box_facts {w : World} {D : Nat} (q : w.heap[D]? = some box0) :
    (∃ x, w.cell? ⟨D, 0, none⟩ = some x) ∧ (∃ x, w.cell? ⟨D, 1, none⟩ = some x) ∧ (∃ x, w.cell? ⟨D, 2, none⟩ = some x) ∧ w.frozen? ⟨D, 0, none⟩ = false ∧ w.frozen? ⟨D, 1, none⟩ = false ∧ w.frozen? ⟨D, 2, none⟩ = false := by
  refine ⟨⟨_, by simp [World.cell?, q]; rfl⟩, ⟨_, by simp [World.cell?, q]; rfl⟩, ⟨_, by simp [World.cell?, q]; rfl⟩, by simp [World.frozen?, q], by simp [World.frozen?, q], by simp [World.frozen?, q]⟩

set_option maxRecDepth 100000 in
set_option maxHeartbeats 1000000 in
theorem comment_tok (C a : Nat) (s : ByteArray) (ins : Bool) (w : World) (h : Sc w C s a ins) (hs : s.size ≤ 20000) (ha : a ≤ s.size) :
    Calls Tryd.prog 43 #[.pointer (some ⟨C, 0, none⟩)] w fun e w' => e = .returned (tv 5 (s.extract a (a + spn notFeed (s.data.toList.drop a))) a) ∧ Sc w' C s (a + spn notFeed (s.data.toList.drop a)) ins ∧ w.grownBy w' (some C) := by
  have HS := Lib.hid h
  have hC := h.lt
  clear h
  have hn : a + spn notFeed (s.data.toList.drop a) ≤ s.size := by have := spn_le notFeed (s.data.toList.drop a); simp at this; omega
  go_enter Tryd.func43, Tryd.ntmps43
  go_wp2_with fail
  refine (span_feed C a s ins _ (HS.out.alloc _) hs ha).mono ?_
  rintro e w1 ⟨rfl, hd⟩
  have HS1 := Lib.hid ((HS.out.alloc box0).drawn hd)
  have HG1 := Lib.hid (only_drawn (only_refl (w.alloc box0) C) hd)
  clear hd
  go_wp2_with fail
  refine (take_comment C a _ s ins _ HS1.out hs hn).mono ?_
  rintro e w2 ⟨rfl, h2, g2⟩
  obtain ⟨q, g, l1, l2⟩ := box_behind hC (only_trans HG1.out g2)
  obtain ⟨⟨x0, c0⟩, ⟨x1, c1⟩, ⟨x2, c2⟩, f0, f1, f2⟩ := box_facts q
  obtain ⟨A, r0, r1, r2⟩ := box_done (.int .i64 5) (.string (s.extract a (a + spn notFeed (s.data.toList.drop a)))) (.int .i64 (a : Int)) h2 g q (Nat.le_refl _) (by omega)
  have HA := Lib.hid A
  clear A h2 g2 g q
  go_wp2
  exact bodyPost_ret (v := tv 5 (s.extract a (a + spn notFeed (s.data.toList.drop a))) a) (by simp [results, Tryd.results43, go_sem, r0, r1, r2]) rfl ⟨rfl, HA.out⟩

set_option maxRecDepth 100000 in
set_option maxHeartbeats 1000000 in
theorem semicolon_tok (C a : Nat) (s : ByteArray) (ins : Bool) (w : World) (h : Sc w C s a ins) (hs : s.size ≤ 20000) (ha : a < s.size) (hb : (s.extract a (a + 1)).toList = [10]) :
    Calls Tryd.prog 37 #[.pointer (some ⟨C, 0, none⟩)] w fun e w' => e = .returned (tv 4 ⟨#[59]⟩ a) ∧ Sc w' C s (a + 1) false ∧ w.grownBy w' (some C) := by
  have HS := Lib.hid h
  have HB := Lib.hid hb
  have hC := h.lt
  clear h hb
  go_enter Tryd.func37, Tryd.ntmps37
  go_wp2_with fail
  refine (take_tok C a 1 4 s ins _ (HS.out.alloc _) hs (by omega) (by decide)).mono ?_
  rintro e w2 ⟨rfl, h2, g2⟩
  have h3 : Sc w2 C s (a + 1) false := by rw [HB.out] at h2; exact h2
  obtain ⟨q, g, l1, l2⟩ := box_behind hC g2
  obtain ⟨⟨x0, c0⟩, ⟨x1, c1⟩, ⟨x2, c2⟩, f0, f1, f2⟩ := box_facts q
  obtain ⟨A, r0, r1, r2⟩ := box_done (.int .i64 4) (.string ⟨#[59]⟩) (.int .i64 (a : Int)) h3 g q (Nat.le_refl _) (by omega)
  have HA := Lib.hid (And.intro (A.1.alloc (.cells #[.int .i64 4, .string ⟨#[59]⟩, .int .i64 (a : Int)] 33)) (only_alloc A.2 (.cells #[.int .i64 4, .string ⟨#[59]⟩, .int .i64 (a : Int)] 33)))
  have s0 := (World.cell?_alloc_lt _ (.cells #[.int .i64 4, .string ⟨#[59]⟩, .int .i64 (a : Int)] 33) ⟨w.heap.size, 0, none⟩ (by rw [size_set, size_set, size_set]; exact l1)).trans r0
  have s1 := (World.cell?_alloc_lt _ (.cells #[.int .i64 4, .string ⟨#[59]⟩, .int .i64 (a : Int)] 33) ⟨w.heap.size, 1, none⟩ (by rw [size_set, size_set, size_set]; exact l1)).trans r1
  have s2 := (World.cell?_alloc_lt _ (.cells #[.int .i64 4, .string ⟨#[59]⟩, .int .i64 (a : Int)] 33) ⟨w.heap.size, 2, none⟩ (by rw [size_set, size_set, size_set]; exact l1)).trans r2
  clear A h2 g2 g q h3 r0 r1 r2
  have l3 : w.heap.size ≠ w2.heap.size := by omega
  go_wp2
  exact bodyPost_ret (v := tv 4 ⟨#[59]⟩ a) (by simp [results, Tryd.results37, go_sem, s0, s1, s2]) rfl ⟨rfl, HA.out⟩
end Go.Proofs.YtaalgkcbknlccaaDoor
