/-
  The walk of take.
-/
import Derived.Test.YtaalgkcbknlccaaDoorW3
import Derived.RegionTactic
import Derived.BigRegion
namespace Go.Proofs.YtaalgkcbknlccaaDoor
open Go.RowKit M

/-- A token's box, fresh. -/
abbrev box0 : Obj := .cells #[.int .i64 0, .string ⟨#[]⟩, .int .i64 0] 33

theorem set3 {W : World} {D : Nat} {x0 x1 x2 : Value} {t : TypeId} {fr : Nat × Nat} (h : W.heap[D]? = some (.cells #[x0, x1, x2] t fr)) (v0 v1 v2 : Value) :
    (((W.setCell ⟨D, 0, none⟩ v0).setCell ⟨D, 1, none⟩ v1).setCell ⟨D, 2, none⟩ v2).heap[D]? = some (.cells #[v0, v1, v2] t fr) := by
  simp [World.setCell, Array.getElem?_modify, h]
theorem cell3 {W : World} {D : Nat} {x0 x1 x2 : Value} {t : TypeId} {fr : Nat × Nat} (h : W.heap[D]? = some (.cells #[x0, x1, x2] t fr)) :
    W.cell? ⟨D, 0, none⟩ = some x0 ∧ W.cell? ⟨D, 1, none⟩ = some x1 ∧ W.cell? ⟨D, 2, none⟩ = some x2 := by
  refine ⟨by simp [World.cell?, h], by simp [World.cell?, h], by simp [World.cell?, h]⟩

section
variable {w w' W : World} {C : Nat} {s : ByteArray} {a : Nat} {ins : Bool}
theorem Sc.lt (h : Sc w C s a ins) : C < w.heap.size := h.cells.2.2.2.2.2.2
theorem Sc.alloc (h : Sc w C s a ins) (o : Obj) : Sc (w.alloc o) C s a ins := (Below.heap_alloc w o C h.lt).trans h
theorem Sc.drew (h : Sc w C s a ins) : Sc w.drew C s a ins := h
theorem Sc.drewN (h : Sc w C s a ins) (n : Nat) : Sc (w.drewN n) C s a ins := h
theorem Sc.far (h : Sc w C s a ins) {p : Addr} (hp : C ≠ p.block) (u : Value) : Sc (w.setCell p u) C s a ins := (Below.heap_setCell w p u C hp).trans h
theorem Sc.below {B : Nat} (h : Sc w C s a ins) (hb : Below B w w') (hC : C < B) : Sc w' C s a ins := (hb.block C hC).trans h
theorem Sc.setAt (h : Sc w C s a ins) (a' : Nat) (z : Int) (hz : z = (a' : Int)) : Sc (w.setCell ⟨C, 1, none⟩ (.int .i64 z)) C s a' ins := by
  unfold Sc at h ⊢
  simp [World.setCell, Array.getElem?_modify, h, hz]
theorem Sc.setIns (h : Sc w C s a ins) (b : Bool) : Sc (w.setCell ⟨C, 2, none⟩ (.bool b)) C s a b := by
  unfold Sc at h ⊢
  simp [World.setCell, Array.getElem?_modify, h]
theorem Sc.grown {row : Option Nat} (h : Sc w C s a ins) (hb : w.grownBy w' row) (hg : some C ≠ row) : Sc w' C s a ins := (hb.block C h.lt hg).trans h

/-- Only block C may have turned. -/
theorem only_refl (W : World) (C : Nat) : W.grownBy W (some C) := ⟨rfl, rfl, rfl, Nat.le_refl _, fun _ _ _ => rfl⟩
theorem only_trans {a b c : World} {C : Nat} (h : a.grownBy b (some C)) (k : b.grownBy c (some C)) : a.grownBy c (some C) :=
  ⟨k.os.trans h.os, k.tape.trans h.tape, k.output.trans h.output, Nat.le_trans h.size k.size, fun i hi hne => (k.block i (Nat.lt_of_lt_of_le hi h.size) hne).trans (h.block i hi hne)⟩
theorem only_drewN (h : W.grownBy w (some C)) (n : Nat) : W.grownBy (w.drewN n) (some C) := ⟨h.os, h.tape, h.output, h.size, h.block⟩
theorem only_drew (h : W.grownBy w (some C)) : W.grownBy w.drew (some C) := ⟨h.os, h.tape, h.output, h.size, h.block⟩
theorem only_drawn (h : W.grownBy w (some C)) (d : Drawn w w') : W.grownBy w' (some C) := by
  obtain ⟨n, rfl⟩ := d
  exact only_drewN h n
theorem only_alloc (h : W.grownBy w (some C)) (o : Obj) : W.grownBy (w.alloc o) (some C) :=
  ⟨h.os, h.tape, h.output, Nat.le_trans h.size (by simp), fun i hi hne => (Below.heap_alloc w o i (Nat.lt_of_lt_of_le hi h.size)).trans (h.block i hi hne)⟩
theorem only_set (h : W.grownBy w (some C)) {p : Addr} (hp : p.block = C ∨ W.heap.size ≤ p.block) (u : Value) : W.grownBy (w.setCell p u) (some C) :=
  ⟨h.os, h.tape, h.output, by simpa [World.setCell] using h.size, fun i hi hne => (Below.heap_setCell w p u i (by
    rintro rfl
    rcases hp with hp | hp
    · exact hne (by rw [hp])
    · omega)).trans (h.block i hi hne)⟩
theorem only_below {B : Nat} (h : W.grownBy w (some C)) (hb : Below B w w') (hB : W.heap.size ≤ B) : W.grownBy w' (some C) :=
  ⟨hb.os.trans h.os, hb.tape.trans h.tape, hb.output.trans h.output, Nat.le_trans h.size hb.size, fun i hi hne => (hb.block i (by omega)).trans (h.block i hi hne)⟩
end

theorem size_set (W : World) (p : Addr) (u : Value) : (W.setCell p u).heap.size = W.heap.size := by simp [World.setCell]
theorem size_alloc (W : World) (o : Obj) : (W.alloc o).heap.size = W.heap.size + 1 := by simp
theorem drew_size (W : World) : W.drew.heap.size = W.heap.size := rfl

/-- Behind take's call of endsLine. -/
theorem after_take {w w' : World} {C : Nat} {s : ByteArray} {a a' : Nat} {ins b : Bool} {z : Int} {o : Obj} (v0 v1 v2 : Value) (h : Sc w C s a ins) (hz : z = (a' : Int))
    (hb : Below (((w.setCell ⟨C, 1, none⟩ (.int .i64 z)).alloc box0).alloc o).drew.heap.size (((w.setCell ⟨C, 1, none⟩ (.int .i64 z)).alloc box0).alloc o).drew w') :
    Sc ((((w'.setCell ⟨C, 2, none⟩ (.bool b)).setCell ⟨w.heap.size, 0, none⟩ v0).setCell ⟨w.heap.size, 1, none⟩ v1).setCell ⟨w.heap.size, 2, none⟩ v2) C s a' b ∧
    w.grownBy ((((w'.setCell ⟨C, 2, none⟩ (.bool b)).setCell ⟨w.heap.size, 0, none⟩ v0).setCell ⟨w.heap.size, 1, none⟩ v1).setCell ⟨w.heap.size, 2, none⟩ v2) (some C) ∧
    ((((w'.setCell ⟨C, 2, none⟩ (.bool b)).setCell ⟨w.heap.size, 0, none⟩ v0).setCell ⟨w.heap.size, 1, none⟩ v1).setCell ⟨w.heap.size, 2, none⟩ v2).heap[w.heap.size]? = some (.cells #[v0, v1, v2] 33 (0, 0)) := by
  have hlt := h.lt
  have hz1 : (((w.setCell ⟨C, 1, none⟩ (.int .i64 z)).alloc box0).alloc o).drew.heap.size = w.heap.size + 1 + 1 := by rw [drew_size, size_alloc, size_alloc, size_set]
  rw [hz1] at hb
  have hne : C ≠ w.heap.size := by omega
  refine ⟨?_, ?_, ?_⟩
  · have h1 := (((h.setAt a' z hz).alloc box0).alloc o).drew.below hb (by omega)
    exact (((h1.setIns b).far (p := ⟨w.heap.size, 0, none⟩) hne v0).far (p := ⟨w.heap.size, 1, none⟩) hne v1).far (p := ⟨w.heap.size, 2, none⟩) hne v2
  · have g1 : w.grownBy (((w.setCell ⟨C, 1, none⟩ (.int .i64 z)).alloc box0).alloc o).drew (some C) := only_drew (only_alloc (only_alloc (only_set (p := ⟨C, 1, none⟩) (only_refl w C) (.inl rfl) _) box0) o)
    have g2 := only_set (p := ⟨C, 2, none⟩) (only_below g1 hb (by omega)) (.inl rfl) (.bool b)
    exact only_set (p := ⟨w.heap.size, 2, none⟩) (only_set (p := ⟨w.heap.size, 1, none⟩) (only_set (p := ⟨w.heap.size, 0, none⟩) g2 (.inr (Nat.le_refl _)) v0) (.inr (Nat.le_refl _)) v1) (.inr (Nat.le_refl _)) v2
  · refine set3 (x0 := .int .i64 0) (x1 := .string ⟨#[]⟩) (x2 := .int .i64 0) ?_ v0 v1 v2
    rw [Below.heap_setCell _ _ _ _ (fun e => hne e.symm), hb.block _ (by omega)]
    show (World.alloc (World.alloc _ _) _).heap[_]? = _
    rw [Below.heap_alloc _ _ _ (by rw [size_alloc, size_set]; omega)]
    have := heap_alloc_new (w.setCell ⟨C, 1, none⟩ (.int .i64 z)) box0
    rw [size_set] at this
    exact this

set_option maxRecDepth 100000 in
set_option maxHeartbeats 1000000 in
theorem take_tok (C a n k : Nat) (s : ByteArray) (ins : Bool) (w : World) (h : Sc w C s a ins) (hs : s.size ≤ 20000) (ha : a + n ≤ s.size) (hk5 : ((k : Int) != 5) = true) :
    Calls Tryd.prog 50 #[.pointer (some ⟨C, 0, none⟩), .int .i64 (k : Int), .int .i64 (n : Int)] w fun e w' => e = .returned (tv k (s.extract a (a + n)) a) ∧ Sc w' C s (a + n) (endB k (s.extract a (a + n)).toList) ∧ w.grownBy w' (some C) := by
  obtain ⟨c0, c1, c2, f0, f1, f2, hlt⟩ := h.cells
  have HS := Lib.hid h
  clear h
  have hlt1 : C < w.heap.size + 1 := by omega
  have hlt2 : C < w.heap.size + 1 + 1 := by omega
  have hne1 : C ≠ w.heap.size := by omega
  have hne2 : C ≠ w.heap.size + 1 := by omega
  go_enter Tryd.func50, Tryd.ntmps50
  go_wp2_with fail
  have hw1 : IntKind.i64.wrap ((a : Int) + n) = (a : Int) + n := IntWalk.i64_in _ (by omega)
  have ht1 : ((a : Int) + n).toNat = a + n := by omega
  have hb1 : (0 : Int) ≤ (a : Int) + n := by omega
  have hb0 : (0 : Int) ≤ (a : Int) := by omega
  have hb2 : (a : Int) ≤ (a : Int) + n := by omega
  have hb3 : (a : Int) + n ≤ (s.size : Int) := by omega
  go_region
  clear ht1
  go_wp2_with (go_at_call 56; refine (endsLine_any _ _ _ _).mono ?_; rintro e w' ⟨rfl, hb1⟩; obtain ⟨hc, hf⟩ := bcell hb1)
  obtain ⟨A1, A2, A3⟩ := after_take (.int .i64 (k : Int)) (.string (s.extract a (a + n))) (.int .i64 (a : Int)) (b := endB k (s.extract a (a + n)).toList) (a' := a + n) HS.out (by omega) hb1
  obtain ⟨q0, q1, q2⟩ := cell3 A3
  have A := Lib.hid (And.intro A1 A2)
  clear A1 A2 A3 hc hf hb1
  exact bodyPost_ret (v := tv k (s.extract a (a + n)) a) (by simp [results, Tryd.results50, go_sem, q0, q1, q2]) rfl ⟨rfl, A.out⟩

set_option maxRecDepth 100000 in
set_option maxHeartbeats 1000000 in
theorem take_comment (C a n : Nat) (s : ByteArray) (ins : Bool) (w : World) (h : Sc w C s a ins) (hs : s.size ≤ 20000) (ha : a + n ≤ s.size) :
    Calls Tryd.prog 50 #[.pointer (some ⟨C, 0, none⟩), .int .i64 5, .int .i64 (n : Int)] w fun e w' => e = .returned (tv 5 (s.extract a (a + n)) a) ∧ Sc w' C s (a + n) ins ∧ w.grownBy w' (some C) := by
  obtain ⟨c0, c1, c2, f0, f1, f2, hlt⟩ := h.cells
  have HS := Lib.hid h
  clear h
  have hlt1 : C < w.heap.size + 1 := by omega
  have hlt2 : C < w.heap.size + 1 + 1 := by omega
  have hne1 : C ≠ w.heap.size := by omega
  have hne2 : C ≠ w.heap.size + 1 := by omega
  go_enter Tryd.func50, Tryd.ntmps50
  go_wp2_with fail
  have hw1 : IntKind.i64.wrap ((a : Int) + n) = (a : Int) + n := IntWalk.i64_in _ (by omega)
  have ht1 : ((a : Int) + n).toNat = a + n := by omega
  have hb1 : (0 : Int) ≤ (a : Int) + n := by omega
  have hb0 : (0 : Int) ≤ (a : Int) := by omega
  have hb2 : (a : Int) ≤ (a : Int) + n := by omega
  have hb3 : (a : Int) + n ≤ (s.size : Int) := by omega
  go_region
  clear ht1
  go_wp2
  refine bodyPost_ret (v := tv 5 (s.extract a (a + n)) a) (by simp [results, Tryd.results50, go_sem]) rfl ⟨rfl, ?_, ?_⟩
  · exact (((HS.out.setAt (a + n) _ (by omega)).alloc _).alloc _).drew
  · exact only_drew (only_alloc (only_alloc (only_set (p := ⟨C, 1, none⟩) (only_refl w C) (.inl rfl) _) _) _)
end Go.Proofs.YtaalgkcbknlccaaDoor
