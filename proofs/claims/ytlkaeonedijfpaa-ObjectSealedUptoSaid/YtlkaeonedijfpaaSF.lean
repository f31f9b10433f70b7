/-
  The specification's reader of a program: what stands while it reads.
  The specification's reader: a program (begun).
  The specification's reader of a program: the lists with their rows, what is handed back.
  The specification's reader of a program: what stands in its loops.
-/
import Derived.Test.YtlkaeonedijfpaaSD
import Derived.Test.YtlkaeonedijfpaaQP
set_option linter.all false
namespace Go.Proofs.Ytlkaeonedijfpaa
open Go.RowKit C
def Apart (u v : Value) : Prop := ∀ k, u.ownBlock = some k → v.ownBlock ≠ some k
theorem Apart.symm {u v : Value} (h : Apart u v) : Apart v u := fun k h1 h2 => h k h2 h1
theorem Apart.none (v : Value) : Apart (.slice none 0 0) v := fun k h => by cases h
/-- A row that has grown is apart from what its older form was apart from. -/
theorem Apart.grown {w : World} {u u' v : Value} (h : Apart u v) {g : Nat} (hu : u'.ownBlock = some g) (hat : u.ownBlock = some g ∨ w.heap.size ≤ g) (hv : ∀ k, v.ownBlock = some k → k < w.heap.size) : Apart u' v := by
  intro k hk e
  rw [hu] at hk
  obtain rfl : g = k := by simpa using hk
  rcases hat with e1 | e1
  · exact h g e1 e
  · have := hv g e; omega
abbrev pgO (vf vg vy : Value) (m : Int) : Obj := .cells #[vf, vg, vy, .int .i64 m] 31 (0, 0)
/-- The program's box, its three rows, the rows that stand in them, the result's box. -/
structure Pw (w0 w wr : World) (rb pb : Nat) (L : Bs) (s : Option Bs) (rf rg ry : Rw) (E : List Rw) : Prop where
  rd : Sd w0 wr rb L s
  mv : Mv w wr rb
  rl : rb < w.heap.size
  w0l : w0.heap.size ≤ w.heap.size
  lo : w.heap.size < pb
  blk : wr.heap[pb]? = some (pgO rf.v rg.v ry.v 0)
  res : wr.heap[w.heap.size]? = some zPg
  of : rf.own (pb + 1) wr
  og : rg.own (pb + 1) wr
  oy : ry.own (pb + 1) wr
  oe : ∀ y ∈ E, y.own (pb + 1) wr
  fg : Apart rf.v rg.v
  fy : Apart rf.v ry.v
  gy : Apart rg.v ry.v
  fe : ∀ y ∈ E, Apart rf.v y.v
  ge : ∀ y ∈ E, Apart rg.v y.v
  ye : ∀ y ∈ E, Apart ry.v y.v
section
variable {w0 w wr wr' : World} {rb pb xb : Nat} {L : Bs} {s s' : Option Bs} {rf rg ry : Rw} {E : List Rw}
theorem rw_mv {y : Rw} {base : Nat} (h : y.own base wr) (hm : Mv wr wr' rb) (hrb : rb < base) : y.own base wr' := own_mv h hm hrb
theorem rw_kept {y : Rw} {base : Nat} {row : Option Nat} (h : y.own base wr) (hg : wr.grownBy wr' row) (hne : y.v.ownBlock = none ∨ y.v.ownBlock ≠ row) : y.own base wr' := World.ownsRow.kept h hg hne
theorem rw_alloc {y : Rw} {base : Nat} (h : y.own base wr) (o : Obj) : y.own base (wr.alloc o) := World.ownsRow.alloc h o
theorem Pw.num (h : Pw w0 w wr rb pb L s rf rg ry E) (hs : Sd w0 wr' rb L s') (hm : Mv wr wr' rb) : Pw w0 w wr' rb pb L s' rf rg ry E := by
  have l1 := (Array.getElem?_eq_some_iff.1 h.blk).1
  have l2 := (Array.getElem?_eq_some_iff.1 h.res).1
  have h1 := h.rl
  have h2 := h.lo
  exact ⟨hs, h.mv.trans hm, h.rl, h.w0l, h.lo, (hm.keep l1 (by omega)).trans h.blk, (hm.keep l2 (by omega)).trans h.res, rw_mv h.of hm (by omega), rw_mv h.og hm (by omega), rw_mv h.oy hm (by omega), fun y hy => rw_mv (h.oe y hy) hm (by omega), h.fg, h.fy, h.gy, h.fe, h.ge, h.ye⟩
theorem Pw.alloc (h : Pw w0 w wr rb pb L s rf rg ry E) (o : Obj) : Pw w0 w (wr.alloc o) rb pb L s rf rg ry E :=
  ⟨h.rd.alloc o, h.mv.alloc o, h.rl, h.w0l, h.lo, (heap_alloc_old _ _ (Array.getElem?_eq_some_iff.1 h.blk).1).trans h.blk, (heap_alloc_old _ _ (Array.getElem?_eq_some_iff.1 h.res).1).trans h.res, rw_alloc h.of o, rw_alloc h.og o, rw_alloc h.oy o, fun y hy => rw_alloc (h.oe y hy) o, h.fg, h.fy, h.gy, h.fe, h.ge, h.ye⟩
theorem Pw.set (h : Pw w0 w wr rb pb L s rf rg ry E) (hx : pb < xb) (n1 : rf.v.ownBlock ≠ some xb) (n2 : rg.v.ownBlock ≠ some xb) (n3 : ry.v.ownBlock ≠ some xb) (n4 : ∀ y ∈ E, y.v.ownBlock ≠ some xb) (j : Nat) (u : Value) : Pw w0 w (wr.setCell ⟨xb, j, none⟩ u) rb pb L s rf rg ry E := by
  have l1 := (Array.getElem?_eq_some_iff.1 h.blk).1
  have l2 := (Array.getElem?_eq_some_iff.1 h.res).1
  have h1 := h.rl
  have h2 := h.lo
  have h3 := h.w0l
  have hg := grown_set wr xb j u
  exact ⟨h.rd.mvb hg (by omega) (by omega), h.mv.other (by omega), h.rl, h.w0l, h.lo, (hg.block pb l1 (by simp; omega)).trans h.blk, (hg.block w.heap.size l2 (by simp; omega)).trans h.res, rw_kept h.of hg (.inr n1), rw_kept h.og hg (.inr n2), rw_kept h.oy hg (.inr n3), fun y hy => rw_kept (h.oe y hy) hg (.inr (n4 y hy)), h.fg, h.fy, h.gy, h.fe, h.ge, h.ye⟩
theorem Pw.ptf (h : Pw w0 w wr rb pb L s rf rg ry E) : rf.v.ownBlock ≠ some pb := fun e => by have := (World.ownsRow.lt h.of _ e).1; omega
theorem Pw.ptg (h : Pw w0 w wr rb pb L s rf rg ry E) : rg.v.ownBlock ≠ some pb := fun e => by have := (World.ownsRow.lt h.og _ e).1; omega
theorem Pw.pty (h : Pw w0 w wr rb pb L s rf rg ry E) : ry.v.ownBlock ≠ some pb := fun e => by have := (World.ownsRow.lt h.oy _ e).1; omega
theorem Pw.pte (h : Pw w0 w wr rb pb L s rf rg ry E) : ∀ y ∈ E, y.v.ownBlock ≠ some pb := fun y hy e => by have := (World.ownsRow.lt (h.oe y hy) _ e).1; omega
theorem ne_of_apart {u v : Value} (h : Apart u v) : v.ownBlock = none ∨ v.ownBlock ≠ u.ownBlock := by
  cases hv : v.ownBlock with
  | none => exact .inl rfl
  | some k => exact .inr fun e => h k e.symm hv
/-- The globals' row has grown, and its box knows it. -/
theorem Pw.growG (h : Pw w0 w wr rb pb L s rf rg ry E) {rg' : Rw} {g : Nat} (hu : rg'.v.ownBlock = some g) (hg : wr.grownBy wr' rg.v.ownBlock) (hat : rg.v.ownBlock = some g ∨ wr.heap.size ≤ g) (ho : rg'.own (pb + 1) wr') :
    Pw w0 w (wr'.setCell ⟨pb, 1, none⟩ rg'.v) rb pb L s rf rg' ry E := by
  have l1 := (Array.getElem?_eq_some_iff.1 h.blk).1
  have l2 := (Array.getElem?_eq_some_iff.1 h.res).1
  have h1 := h.rl
  have h2 := h.lo
  have h3 := h.w0l
  have hge : ∀ k, rg.v.ownBlock = some k → pb + 1 ≤ k := fun k hk => (World.ownsRow.lt h.og k hk).1
  have hs := grown_set wr' pb 1 rg'.v
  have hb1 : wr'.heap[pb]? = some (pgO rf.v rg.v ry.v 0) := (hg.block pb l1 (fun e => by have := hge _ e.symm; omega)).trans h.blk
  have hgp : g ≠ pb := by
    rcases hat with e | e
    · have := hge _ e; omega
    · omega
  refine ⟨(h.rd.grn hg (fun k hk => by have := hge _ hk; omega)).mvb hs (by omega) (by omega), ?_, h.rl, h.w0l, h.lo, ?_, ?_, ?_, ?_, ?_, ?_, ?_, h.fy, ?_, h.fe, ?_, h.ye⟩
  · exact Mv.other (grown_trans h.mv hg (fun k hk => .inr (by have := hge _ hk; omega))) (by omega)
  · simp [World.setCell, Array.getElem?_modify, hb1]
  · exact (hs.block _ (by have := hg.size; omega) (by simp; omega)).trans ((hg.block _ l2 (fun e => by have := hge _ e.symm; omega)).trans h.res)
  · exact rw_kept (rw_kept h.of hg (ne_of_apart h.fg.symm)) hs (.inr h.ptf)
  · exact rw_kept ho hs (.inr (by rw [hu]; simp; omega))
  · exact rw_kept (rw_kept h.oy hg (ne_of_apart h.gy)) hs (.inr h.pty)
  · exact fun y hy => rw_kept (rw_kept (h.oe y hy) hg (ne_of_apart (h.ge y hy))) hs (.inr (h.pte y hy))
  · exact (Apart.grown h.fg.symm hu hat (fun k hk => (World.ownsRow.lt h.of k hk).2)).symm
  · exact Apart.grown h.gy hu hat (fun k hk => (World.ownsRow.lt h.oy k hk).2)
  · exact fun y hy => Apart.grown (h.ge y hy) hu hat (fun k hk => (World.ownsRow.lt (h.oe y hy) k hk).2)
/-- The functions' row has grown. -/
theorem Pw.growF (h : Pw w0 w wr rb pb L s rf rg ry E) {rf' : Rw} {g : Nat} (hu : rf'.v.ownBlock = some g) (hg : wr.grownBy wr' rf.v.ownBlock) (hat : rf.v.ownBlock = some g ∨ wr.heap.size ≤ g) (ho : rf'.own (pb + 1) wr') :
    Pw w0 w (wr'.setCell ⟨pb, 0, none⟩ rf'.v) rb pb L s rf' rg ry E := by
  have l1 := (Array.getElem?_eq_some_iff.1 h.blk).1
  have l2 := (Array.getElem?_eq_some_iff.1 h.res).1
  have h1 := h.rl
  have h2 := h.lo
  have h3 := h.w0l
  have hge : ∀ k, rf.v.ownBlock = some k → pb + 1 ≤ k := fun k hk => (World.ownsRow.lt h.of k hk).1
  have hs := grown_set wr' pb 0 rf'.v
  have hb1 : wr'.heap[pb]? = some (pgO rf.v rg.v ry.v 0) := (hg.block pb l1 (fun e => by have := hge _ e.symm; omega)).trans h.blk
  have hgp : g ≠ pb := by
    rcases hat with e | e
    · have := hge _ e; omega
    · omega
  refine ⟨(h.rd.grn hg (fun k hk => by have := hge _ hk; omega)).mvb hs (by omega) (by omega), ?_, h.rl, h.w0l, h.lo, ?_, ?_, ?_, ?_, ?_, ?_, ?_, ?_, h.gy, ?_, h.ge, h.ye⟩
  · exact Mv.other (grown_trans h.mv hg (fun k hk => .inr (by have := hge _ hk; omega))) (by omega)
  · simp [World.setCell, Array.getElem?_modify, hb1]
  · exact (hs.block _ (by have := hg.size; omega) (by simp; omega)).trans ((hg.block _ l2 (fun e => by have := hge _ e.symm; omega)).trans h.res)
  · exact rw_kept ho hs (.inr (by rw [hu]; simp; omega))
  · exact rw_kept (rw_kept h.og hg (ne_of_apart h.fg)) hs (.inr h.ptg)
  · exact rw_kept (rw_kept h.oy hg (ne_of_apart h.fy)) hs (.inr h.pty)
  · exact fun y hy => rw_kept (rw_kept (h.oe y hy) hg (ne_of_apart (h.fe y hy))) hs (.inr (h.pte y hy))
  · exact Apart.grown h.fg hu hat (fun k hk => (World.ownsRow.lt h.og k hk).2)
  · exact Apart.grown h.fy hu hat (fun k hk => (World.ownsRow.lt h.oy k hk).2)
  · exact fun y hy => Apart.grown (h.fe y hy) hu hat (fun k hk => (World.ownsRow.lt (h.oe y hy) k hk).2)
/-- The layouts' row has grown. -/
theorem Pw.growY (h : Pw w0 w wr rb pb L s rf rg ry E) {ry' : Rw} {g : Nat} (hu : ry'.v.ownBlock = some g) (hg : wr.grownBy wr' ry.v.ownBlock) (hat : ry.v.ownBlock = some g ∨ wr.heap.size ≤ g) (ho : ry'.own (pb + 1) wr') :
    Pw w0 w (wr'.setCell ⟨pb, 2, none⟩ ry'.v) rb pb L s rf rg ry' E := by
  have l1 := (Array.getElem?_eq_some_iff.1 h.blk).1
  have l2 := (Array.getElem?_eq_some_iff.1 h.res).1
  have h1 := h.rl
  have h2 := h.lo
  have h3 := h.w0l
  have hge : ∀ k, ry.v.ownBlock = some k → pb + 1 ≤ k := fun k hk => (World.ownsRow.lt h.oy k hk).1
  have hs := grown_set wr' pb 2 ry'.v
  have hb1 : wr'.heap[pb]? = some (pgO rf.v rg.v ry.v 0) := (hg.block pb l1 (fun e => by have := hge _ e.symm; omega)).trans h.blk
  have hgp : g ≠ pb := by
    rcases hat with e | e
    · have := hge _ e; omega
    · omega
  refine ⟨(h.rd.grn hg (fun k hk => by have := hge _ hk; omega)).mvb hs (by omega) (by omega), ?_, h.rl, h.w0l, h.lo, ?_, ?_, ?_, ?_, ?_, ?_, h.fg, ?_, ?_, h.fe, h.ge, ?_⟩
  · exact Mv.other (grown_trans h.mv hg (fun k hk => .inr (by have := hge _ hk; omega))) (by omega)
  · simp [World.setCell, Array.getElem?_modify, hb1]
  · exact (hs.block _ (by have := hg.size; omega) (by simp; omega)).trans ((hg.block _ l2 (fun e => by have := hge _ e.symm; omega)).trans h.res)
  · exact rw_kept (rw_kept h.of hg (ne_of_apart h.fy.symm)) hs (.inr h.ptf)
  · exact rw_kept (rw_kept h.og hg (ne_of_apart h.gy.symm)) hs (.inr h.ptg)
  · exact rw_kept ho hs (.inr (by rw [hu]; simp; omega))
  · exact fun y hy => rw_kept (rw_kept (h.oe y hy) hg (ne_of_apart (h.ye y hy))) hs (.inr (h.pte y hy))
  · exact (Apart.grown h.fy.symm hu hat (fun k hk => (World.ownsRow.lt h.of k hk).2)).symm
  · exact (Apart.grown h.gy.symm hu hat (fun k hk => (World.ownsRow.lt h.og k hk).2)).symm
  · exact fun y hy => Apart.grown (h.ye y hy) hu hat (fun k hk => (World.ownsRow.lt (h.oe y hy) k hk).2)
/-- One more row that stands. -/
theorem Pw.stand (h : Pw w0 w wr rb pb L s rf rg ry E) {l : Rw} (ho : l.own (pb + 1) wr) (a1 : Apart rf.v l.v) (a2 : Apart rg.v l.v) (a3 : Apart ry.v l.v) : Pw w0 w wr rb pb L s rf rg ry (E ++ [l]) := by
  have key : ∀ {p : Rw → Prop}, (∀ y ∈ E, p y) → p l → ∀ y ∈ E ++ [l], p y := fun h1 h2 y hy => by
    rcases List.mem_append.1 hy with e | e
    · exact h1 y e
    · obtain rfl : y = l := by simpa using e
      exact h2
  exact ⟨h.rd, h.mv, h.rl, h.w0l, h.lo, h.blk, h.res, h.of, h.og, h.oy, key h.oe ho, h.fg, h.fy, h.gy, key h.fe a1, key h.ge a2, key h.ye a3⟩
/-- A row of its own grows beside them. -/
theorem Pw.side (h : Pw w0 w wr rb pb L s rf rg ry E) {l : Rw} (ho : l.own (pb + 1) wr) (a1 : Apart rf.v l.v) (a2 : Apart rg.v l.v) (a3 : Apart ry.v l.v) (a4 : ∀ y ∈ E, Apart l.v y.v) (hg : wr.grownBy wr' l.v.ownBlock) : Pw w0 w wr' rb pb L s rf rg ry E := by
  have l1 := (Array.getElem?_eq_some_iff.1 h.blk).1
  have l2 := (Array.getElem?_eq_some_iff.1 h.res).1
  have h1 := h.rl
  have h2 := h.lo
  have h3 := h.w0l
  have hge : ∀ k, l.v.ownBlock = some k → pb + 1 ≤ k := fun k hk => (World.ownsRow.lt ho k hk).1
  refine ⟨h.rd.grn hg (fun k hk => by have := hge _ hk; omega), grown_trans h.mv hg (fun k hk => .inr (by have := hge _ hk; omega)), h.rl, h.w0l, h.lo, (hg.block pb l1 (fun e => by have := hge _ e.symm; omega)).trans h.blk, (hg.block _ l2 (fun e => by have := hge _ e.symm; omega)).trans h.res, rw_kept h.of hg (ne_of_apart a1.symm), rw_kept h.og hg (ne_of_apart a2.symm), rw_kept h.oy hg (ne_of_apart a3.symm), fun y hy => rw_kept (h.oe y hy) hg (ne_of_apart (a4 y hy)), h.fg, h.fy, h.gy, h.fe, h.ge, h.ye⟩
end
end Go.Proofs.Ytlkaeonedijfpaa

namespace Go.Proofs.Ytlkaeonedijfpaa
open Go.RowKit C
def gC (g : Gl) : List Value := [.string g.name, .int .i64 g.kind]
abbrev nilR (t : TypeId) (sz : Nat) : Rw := ⟨t, sz, .slice none 0 0, 0, []⟩
abbrev gR (v : Value) (gs : List Gl) : Rw := ⟨51, 2, v, gs.length, (gs.map gC).flatten⟩
theorem Pw.new {w0 w w1 : World} {rb : Nat} {L : Bs} {s : Option Bs} (h : Sd w0 w rb L s) : Pw w0 w ((w.alloc zPg).alloc (pgO (.slice none 0 0) (.slice none 0 0) (.slice none 0 0) 0)) rb (w.heap.size + 1) L s (nilR 55 4) (gR (.slice none 0 0) []) (nilR 52 1) [] := by
  have hb := heapB w zPg (pgO (.slice none 0 0) (.slice none 0 0) (.slice none 0 0) 0)
  have ha := heap2a w zPg (pgO (.slice none 0 0) (.slice none 0 0) (.slice none 0 0) 0)
  exact ⟨(h.alloc _).alloc _, ((Mv.refl w rb).alloc _).alloc _, h.lt, h.bel.size, by omega, hb, ha, World.ownsRow_nil _ _ _ _, World.ownsRow_nil _ _ _ _, World.ownsRow_nil _ _ _ _, by simp, Apart.none _, Apart.none _, Apart.none _, by simp, by simp, by simp⟩
/-- A list's loop: what is read so far. -/
def RestL {α : Type} (f : Option Bs → α × Option Bs) (N : Nat) (s0 : Option Bs) (k : Nat) (xs : List α) (s : Option Bs) : Prop := k ≤ N ∧ xs.length = k ∧ listS f N s0 = (xs ++ (listS f (N - k) s).1, (listS f (N - k) s).2)
theorem RestL.start {α : Type} (f : Option Bs → α × Option Bs) (N : Nat) (s0 : Option Bs) : RestL f N s0 0 [] s0 := ⟨Nat.zero_le _, rfl, rfl⟩
theorem RestL.next {α : Type} {f : Option Bs → α × Option Bs} {N : Nat} {s0 : Option Bs} {k : Nat} {xs : List α} {l : Bs} (h : RestL f N s0 k xs (some l)) (hk : k < N) : RestL f N s0 (k + 1) (xs ++ [(f (some l)).1]) (f (some l)).2 := by
  obtain ⟨h1, h2, h3⟩ := h
  refine ⟨hk, by simp [h2], ?_⟩
  rw [h3, show N - k = (N - (k + 1)) + 1 by omega]
  simp only [listS, List.append_assoc, List.singleton_append]
theorem RestL.done {α : Type} {f : Option Bs → α × Option Bs} {N : Nat} {s0 : Option Bs} {xs : List α} {s : Option Bs} (h : RestL f N s0 N xs s) : listS f N s0 = (xs, s) := by
  obtain ⟨h1, h2, h3⟩ := h
  rw [h3, Nat.sub_self]; simp [listS]
theorem RestL.stop {α : Type} {f : Option Bs → α × Option Bs} {N : Nat} {s0 : Option Bs} {k : Nat} {xs : List α} (h : RestL f N s0 k xs none) : listS f N s0 = (xs, none) := by
  obtain ⟨h1, h2, h3⟩ := h
  rw [h3, listS_bad]; simp
end Go.Proofs.Ytlkaeonedijfpaa

namespace Go.Proofs.Ytlkaeonedijfpaa
open Go.RowKit C
def fnC' (z : Fc × Value) : List Value := [.string z.1.name, .int .i64 z.1.params, .int .i64 z.1.regs, z.2]
def lyC' (y : List Int × Value) : List Value := [y.2]
abbrev lR (v : Value) (xs : List Int) : Rw := ⟨3, 1, v, xs.length, (xs.map intC).flatten⟩
abbrev lRy (y : List Int × Value) : Rw := lR y.2 y.1
abbrev cR (z : Fc × Value) : Rw := ⟨57, 5, z.2, z.1.code.length, (z.1.code.map inC).flatten⟩
abbrev yR (v : Value) (ys : List (List Int × Value)) : Rw := ⟨52, 1, v, ys.length, (ys.map lyC').flatten⟩
abbrev fR (v : Value) (zs : List (Fc × Value)) : Rw := ⟨55, 4, v, zs.length, (zs.map fnC').flatten⟩
structure Ok3 (gs : List Gl) (ys : List (List Int × Value)) (zs : List (Fc × Value)) : Prop where
  g : ∀ g ∈ gs, g.name.size ≤ maxLen ∧ i64 g.kind
  y : ∀ y ∈ ys, ∀ x ∈ y.1, i64 x
  z : ∀ z ∈ zs, z.1.name.size ≤ maxLen ∧ i64 z.1.params ∧ i64 z.1.regs ∧ ∀ x ∈ z.1.code, I5 x
structure Pz (w0 w wr : World) (rb : Nat) (L : Bs) (s : Option Bs) (vf vg vy : Value) (gs : List Gl) (ys : List (List Int × Value)) (zs : List (Fc × Value)) : Prop where
  pw : Pw w0 w wr rb (w.heap.size + 1) L s (fR vf zs) (gR vg gs) (yR vy ys) (ys.map lRy ++ zs.map cR)
  ok : Ok3 gs ys zs
/-- The rows alone. -/
structure Pr (base : Nat) (V : World) (vf vg vy : Value) (gs : List Gl) (ys : List (List Int × Value)) (zs : List (Fc × Value)) : Prop where
  f : (fR vf zs).own base V
  g : (gR vg gs).own base V
  y : (yR vy ys).own base V
  l : ∀ y ∈ ys, (lRy y).own base V
  c : ∀ z ∈ zs, (cR z).own base V
theorem own_stab {B base n sz : Nat} {w V : World} {t : TypeId} {v : Value} {xs : List Value} (h : w.ownsRow base t sz v n xs) (hs : Stab B w V) (hb : B ≤ base) : V.ownsRow base t sz v n xs := by
  refine ⟨h.1, ?_⟩
  rcases h.2 with hn | ⟨g, cap, cur, rfl, hbg, hg, rest⟩
  · exact .inl hn
  · exact .inr ⟨g, cap, cur, rfl, hbg, (hs.2 g (by omega) (Array.getElem?_eq_some_iff.1 hg).1).trans hg, rest⟩
theorem Pr.stab {B base : Nat} {w V : World} {vf vg vy : Value} {gs : List Gl} {ys : List (List Int × Value)} {zs : List (Fc × Value)} (h : Pr base w vf vg vy gs ys zs) (hs : Stab B w V) (hb : B ≤ base) : Pr base V vf vg vy gs ys zs :=
  ⟨own_stab h.f hs hb, own_stab h.g hs hb, own_stab h.y hs hb, fun y hy => own_stab (h.l y hy) hs hb, fun z hz => own_stab (h.c z hz) hs hb⟩
theorem Stab.trans {B C : Nat} {u v w : World} (h : Stab B u v) (h2 : Stab C v w) (hb : C ≤ B) : Stab B u w :=
  ⟨Nat.le_trans h.1 h2.1, fun g h1 h3 => (h2.2 g (by omega) (by have := h.1; omega)).trans (h.2 g h1 h3)⟩
theorem stab_set (B : Nat) (w : World) (b j : Nat) (v : Value) (hb : b < B) : Stab B w (w.setCell ⟨b, j, none⟩ v) :=
  ⟨by simp, fun g h1 h2 => heap_setCell_other _ _ _ _ (by simp; omega)⟩
theorem own_max {w : World} {base n sz : Nat} {t : TypeId} {v : Value} {xs : List Value} (h : w.ownsRow base t sz v n xs) : n ≤ maxLen := by
  rcases h.2 with ⟨_, hn⟩ | ⟨g, cap, cur, _, _, _, h1, h2, _⟩
  · rw [hn]; exact Nat.zero_le _
  · omega
theorem lR_at {base : Nat} {V : World} {y : List Int × Value} (h : (lRy y).own base V) (ok : ∀ x ∈ y.1, i64 x) {g o : Nat} (hg : g < V.heap.size) (hc : V.cell? ⟨g, o, none⟩ = some y.2) : LyAt V y.1 g o := by
  have he : El 1 IntAt base V none y.1 y.2 := el_own (cl := intC) (fun _ => rfl) h fun x hx g o h1 h2 => ⟨h1, by have := h2 0 (by omega); simpa [intC] using this, ok x hx⟩
  obtain ⟨A, cap, hv⟩ := he.form
  rw [hv] at he hc
  obtain ⟨_, h2, h3⟩ := el_row he
  exact ⟨hg, A, cap, hc, h2, own_max h, h3⟩
theorem cR_at {base : Nat} {V : World} {z : Fc × Value} (h : (cR z).own base V) (ok : z.1.name.size ≤ maxLen ∧ i64 z.1.params ∧ i64 z.1.regs ∧ ∀ x ∈ z.1.code, I5 x) {g o : Nat} (hg : g < V.heap.size) (hc : ∀ r, r < 4 → V.cell? ⟨g, o + r, none⟩ = (fnC' z)[r]?) : FnAt V z.1 g o := by
  have he : El 5 InAt base V none z.1.code z.2 := el_own (cl := inC) (fun _ => rfl) h fun x hx g o h1 h2 => by
    obtain ⟨b0, b1, b2, b3, b4⟩ := ok.2.2.2 x hx
    exact ⟨h1, by have := h2 0 (by omega); simpa using this, by have := h2 1 (by omega); simpa using this, by have := h2 2 (by omega); simpa using this, by have := h2 3 (by omega); simpa using this, by have := h2 4 (by omega); simpa using this, b0, b1, b2, b3, b4⟩
  obtain ⟨A, cap, hv⟩ := he.form
  have h3c := hc 3 (by omega)
  have hvc : (fnC' z)[3]? = some z.2 := rfl
  rw [hvc, hv] at h3c
  rw [hv] at he
  obtain ⟨_, h2, h3⟩ := el_row he
  exact ⟨hg, by have := hc 0 (by omega); simpa [fnC'] using this, by have := hc 1 (by omega); simpa [fnC'] using this, by have := hc 2 (by omega); simpa [fnC'] using this, ⟨A, cap, h3c, h2, own_max h, h3⟩, ok.1, ok.2.1, ok.2.2.1⟩
theorem Pr.pg {base : Nat} {V : World} {vf vg vy : Value} {gs : List Gl} {ys : List (List Int × Value)} {zs : List (Fc × Value)} (h : Pr base V vf vg vy gs ys zs) (ok : Ok3 gs ys zs) {m : Int} (hm : C.I64 m) {A B D : Option Addr} {na nb nd ca cb cd : Nat} (e1 : vf = .slice A na ca) (e2 : vg = .slice B nb cb) (e3 : vy = .slice D nd cd) :
    (na = zs.length ∧ nb = gs.length ∧ nd = ys.length) ∧ PgAt V ⟨zs.map (·.1), gs, ys.map (·.1), m⟩ A B D ca cb cd := by
  subst e1 e2 e3
  have g1 : El 2 GlAt base V none gs (.slice B nb cb) := el_own (cl := gC) (fun _ => rfl) h.g fun x hx g o h1 h2 => ⟨h1, by have := h2 0 (by omega); simpa [gC] using this, by have := h2 1 (by omega); simpa [gC] using this, (ok.g x hx).1, (ok.g x hx).2⟩
  have y1 : El 1 (fun w y g o => LyAt w y.1 g o) base V none ys (.slice D nd cd) := el_own (cl := lyC') (fun _ => rfl) h.y fun x hx g o h1 h2 => lR_at (h.l x hx) (ok.y x hx) h1 (by have := h2 0 (by omega); simpa [lyC'] using this)
  have f1 : El 4 (fun w z g o => FnAt w z.1 g o) base V none zs (.slice A na ca) := el_own (cl := fnC') (fun _ => rfl) h.f fun x hx g o h1 h2 => cR_at (h.c x hx) (ok.z x hx) h1 h2
  have k1 := el_row g1
  have k2 := el_row (y1.imp (S := LyAt) (fun y => y.1) fun _ _ _ _ h => h)
  have k3 := el_row (f1.imp (S := FnAt) (fun z => z.1) fun _ _ _ _ h => h)
  have m1 := own_max h.g
  have m2 := own_max h.y
  have m3 := own_max h.f
  rw [List.length_map] at k2 k3
  exact ⟨⟨k3.1, k1.1, k2.1⟩, k3.2.2, k1.2.2, k2.2.2, hm, ⟨by rw [List.length_map]; exact k3.2.1, by rw [List.length_map]; exact m3⟩, ⟨k1.2.1, m1⟩, ⟨by rw [List.length_map]; exact k2.2.1, by rw [List.length_map]; exact m2⟩⟩
theorem Pz.pr {w0 w wr : World} {rb : Nat} {L : Bs} {s : Option Bs} {vf vg vy : Value} {gs : List Gl} {ys : List (List Int × Value)} {zs : List (Fc × Value)} (h : Pz w0 w wr rb L s vf vg vy gs ys zs) : Pr (w.heap.size + 2) wr vf vg vy gs ys zs :=
  ⟨h.pw.of, h.pw.og, h.pw.oy, fun y hy => h.pw.oe _ (List.mem_append.2 (.inl (List.mem_map_of_mem hy))), fun z hz => h.pw.oe _ (List.mem_append.2 (.inr (List.mem_map_of_mem hz)))⟩
/-- What the reader of a program answers. -/
def QPg (w0 w : World) (rb : Nat) (L : Bs) (o : Pg × Option Bs) (e : Ending) (w' : World) : Prop :=
  ∃ A B D ca cb cd, e = .returned (pv o.1 A B D ca cb cd) ∧ Sd w0 w' rb L o.2 ∧ Mv w w' rb ∧ ∀ V, Stab (w.heap.size + 1) w' V → PgAt V o.1 A B D ca cb cd
theorem Pz.fin {w0 w wr : World} {rb : Nat} {L : Bs} {s : Option Bs} {A B D : Option Addr} {na nb nd ca cb cd : Nat} {gs : List Gl} {ys : List (List Int × Value)} {zs : List (Fc × Value)} (h : Pz w0 w wr rb L s (.slice A na ca) (.slice B nb cb) (.slice D nd cd) gs ys zs) {m : Int} (hm : C.I64 m) :
    QPg w0 w rb L (⟨zs.map (·.1), gs, ys.map (·.1), m⟩, s) (.returned (.agg #[.slice A na ca, .slice B nb cb, .slice D nd cd, .int .i64 m])) (((((wr.setCell ⟨w.heap.size + 1, 3, none⟩ (.int .i64 m)).setCell ⟨w.heap.size, 0, none⟩ (.slice A na ca)).setCell ⟨w.heap.size, 1, none⟩ (.slice B nb cb)).setCell ⟨w.heap.size, 2, none⟩ (.slice D nd cd)).setCell ⟨w.heap.size, 3, none⟩ (.int .i64 m)) := by
  have h1 := h.pw.rl
  have h2 := h.pw.lo
  have h3 := h.pw.w0l
  have st : Stab (w.heap.size + 2) wr (((((wr.setCell ⟨w.heap.size + 1, 3, none⟩ (.int .i64 m)).setCell ⟨w.heap.size, 0, none⟩ (.slice A na ca)).setCell ⟨w.heap.size, 1, none⟩ (.slice B nb cb)).setCell ⟨w.heap.size, 2, none⟩ (.slice D nd cd)).setCell ⟨w.heap.size, 3, none⟩ (.int .i64 m)) :=
    ((((stab_set _ _ _ _ _ (by omega)).trans (stab_set _ _ _ _ _ (by omega)) (Nat.le_refl _)).trans (stab_set _ _ _ _ _ (by omega)) (Nat.le_refl _)).trans (stab_set _ _ _ _ _ (by omega)) (Nat.le_refl _)).trans (stab_set _ _ _ _ _ (by omega)) (Nat.le_refl _)
  obtain ⟨⟨e1, e2, e3⟩, _⟩ := h.pr.pg h.ok hm rfl rfl rfl
  refine ⟨A, B, D, ca, cb, cd, by rw [e1, e2, e3]; simp [pv], ?_, ?_, fun V hV => ((h.pr.stab (st.trans hV (by omega)) (Nat.le_refl _)).pg h.ok hm rfl rfl rfl).2⟩
  · exact ((((h.pw.rd.mvb (grown_set _ _ _ _) (by omega) (by omega)).mvb (grown_set _ _ _ _) (by omega) h3).mvb (grown_set _ _ _ _) (by omega) h3).mvb (grown_set _ _ _ _) (by omega) h3).mvb (grown_set _ _ _ _) (by omega) h3
  · exact ((((h.pw.mv.other (by omega)).other (Nat.le_refl _)).other (Nat.le_refl _)).other (Nat.le_refl _)).other (Nat.le_refl _)
theorem Pz.new {w0 w : World} {rb : Nat} {L : Bs} {s : Option Bs} (h : Sd w0 w rb L s) : Pz w0 w ((w.alloc zPg).alloc (pgO (.slice none 0 0) (.slice none 0 0) (.slice none 0 0) 0)) rb L s (.slice none 0 0) (.slice none 0 0) (.slice none 0 0) [] [] [] :=
  ⟨Pw.new (w1 := w) h, ⟨by simp, by simp, by simp⟩⟩
theorem Pz.num {w0 w wr wr' : World} {rb : Nat} {L : Bs} {s s' : Option Bs} {vf vg vy : Value} {gs : List Gl} {ys : List (List Int × Value)} {zs : List (Fc × Value)} (h : Pz w0 w wr rb L s vf vg vy gs ys zs) (hs : Sd w0 wr' rb L s') (hm : Mv wr wr' rb) : Pz w0 w wr' rb L s' vf vg vy gs ys zs := ⟨h.pw.num hs hm, h.ok⟩
theorem Pz.alloc {w0 w wr : World} {rb : Nat} {L : Bs} {s : Option Bs} {vf vg vy : Value} {gs : List Gl} {ys : List (List Int × Value)} {zs : List (Fc × Value)} (h : Pz w0 w wr rb L s vf vg vy gs ys zs) (o : Obj) : Pz w0 w (wr.alloc o) rb L s vf vg vy gs ys zs := ⟨h.pw.alloc o, h.ok⟩
/-- What a piece read is worth. -/
theorem textS_size (l : Bs) : (textS (some l)).1.size ≤ l.length := by
  cases hd : textD l with
  | none => simp only [textS, hd]; exact Nat.zero_le _
  | some q =>
    obtain ⟨t, r⟩ := q
    have e := (text_codec.of _ _ _ hd).1
    have e2 := congrArg List.length e
    unfold textE at e2
    simp only [List.length_append] at e2
    have hl : t.data.toList.length = t.size := Array.length_toList
    simp only [textS, hd]
    omega
theorem Sd.len {w0 w : World} {rb : Nat} {L l : Bs} (h : Sd w0 w rb L (some l)) : l.length ≤ L.length := by
  obtain ⟨A, cap, n, _, _, _, _, _, h6⟩ := h.blk
  rw [h6 _ rfl, List.length_drop]; omega
end Go.Proofs.Ytlkaeonedijfpaa

namespace Go.Proofs.Ytlkaeonedijfpaa
open Go.RowKit C
section
variable {w0 w wr wr' : World} {rb xb : Nat} {L : Bs} {s s' : Option Bs} {vf vg vy : Value} {gs : List Gl} {ys : List (List Int × Value)} {zs : List (Fc × Value)}
/-- A box of the call's own beside the rows. -/
structure Bxx (w : World) (xb : Nat) (vf vg vy : Value) (ys : List (List Int × Value)) (zs : List (Fc × Value)) : Prop where
  lo : w.heap.size + 1 < xb
  n1 : vf.ownBlock ≠ some xb
  n2 : vg.ownBlock ≠ some xb
  n3 : vy.ownBlock ≠ some xb
  n4 : ∀ y ∈ ys.map lRy ++ zs.map cR, y.v.ownBlock ≠ some xb
theorem Pz.fresh (h : Pz w0 w wr rb L s vf vg vy gs ys zs) (hx : wr.heap.size ≤ xb) : Bxx w xb vf vg vy ys zs := by
  have l1 := (Array.getElem?_eq_some_iff.1 h.pw.blk).1
  exact ⟨by omega, fun e => by have := (World.ownsRow.lt h.pw.of _ e).2; omega, fun e => by have := (World.ownsRow.lt h.pw.og _ e).2; omega, fun e => by have := (World.ownsRow.lt h.pw.oy _ e).2; omega, fun y hy e => by have := (World.ownsRow.lt (h.pw.oe y hy) _ e).2; omega⟩
theorem Pz.setx (h : Pz w0 w wr rb L s vf vg vy gs ys zs) (hb : Bxx w xb vf vg vy ys zs) (j : Nat) (u : Value) : Pz w0 w (wr.setCell ⟨xb, j, none⟩ u) rb L s vf vg vy gs ys zs :=
  ⟨h.pw.set hb.lo hb.n1 hb.n2 hb.n3 hb.n4 j u, h.ok⟩
abbrev glO (nm : ByteArray) (k : Int) : Obj := .cells #[.string nm, .int .i64 k] 51 (0, 0)
/-- With the box of a variable. -/
structure Gx (w0 w wr : World) (rb xb : Nat) (L : Bs) (s : Option Bs) (vf vg vy : Value) (gs : List Gl) (ys : List (List Int × Value)) (zs : List (Fc × Value)) (nm : ByteArray) (k : Int) : Prop where
  f : Pz w0 w wr rb L s vf vg vy gs ys zs
  x : wr.heap[xb]? = some (glO nm k)
  b : Bxx w xb vf vg vy ys zs
theorem Gx.new (h : Pz w0 w wr rb L s vf vg vy gs ys zs) (nm : ByteArray) (k : Int) : Gx w0 w (wr.alloc (glO nm k)) rb wr.heap.size L s vf vg vy gs ys zs nm k :=
  ⟨h.alloc _, heap_alloc_new wr _, h.fresh (Nat.le_refl _)⟩
theorem Gx.num {nm : ByteArray} {k : Int} (h : Gx w0 w wr rb xb L s vf vg vy gs ys zs nm k) (hs : Sd w0 wr' rb L s') (hm : Mv wr wr' rb) : Gx w0 w wr' rb xb L s' vf vg vy gs ys zs nm k := by
  have h1 := h.f.pw.rl
  have h2 := h.b.lo
  exact ⟨h.f.num hs hm, (hm.keep (Array.getElem?_eq_some_iff.1 h.x).1 (by omega)).trans h.x, h.b⟩
theorem Gx.set1 {nm : ByteArray} {k : Int} (h : Gx w0 w wr rb xb L s vf vg vy gs ys zs nm k) (u : Int) : Gx w0 w (wr.setCell ⟨xb, 1, none⟩ (.int .i64 u)) rb xb L s vf vg vy gs ys zs nm u :=
  ⟨h.f.setx h.b _ _, by simp [World.setCell, Array.getElem?_modify, h.x], h.b⟩
/-- One more variable. -/
theorem Pz.moreG (h : Pz w0 w wr rb L s vf vg vy gs ys zs) {x : Gl} (hx : x.name.size ≤ maxLen ∧ i64 x.kind) {g : Nat} {vg' : Value} (hv' : vg'.ownBlock = some g) (hg : wr.grownBy wr' vg.ownBlock) (hat : vg.ownBlock = some g ∨ wr.heap.size ≤ g) (ho : wr'.ownsRow (w.heap.size + 1 + 1) 51 2 vg' (gs.length + 1) ((gs.map gC).flatten ++ gC x)) :
    Pz w0 w (wr'.setCell ⟨w.heap.size + 1, 1, none⟩ vg') rb L s vf vg' vy (gs ++ [x]) ys zs :=
  ⟨h.pw.growG (rg' := gR vg' (gs ++ [x])) hv' hg hat (by simpa [Rw.own] using ho), ⟨fun y hy => by
    rcases List.mem_append.1 hy with e | e
    · exact h.ok.g y e
    · obtain rfl : y = x := by simpa using e
      exact hx, h.ok.y, h.ok.z⟩⟩
/-- A layout that grows. -/
structure Pl (w0 w wr : World) (rb : Nat) (L : Bs) (s : Option Bs) (vf vg vy : Value) (gs : List Gl) (ys : List (List Int × Value)) (v : Value) (xs : List Int) : Prop where
  f : Pz w0 w wr rb L s vf vg vy gs ys []
  own : (lR v xs).own (w.heap.size + 1 + 1) wr
  a1 : Apart vf v
  a2 : Apart vg v
  a3 : Apart vy v
  a4 : ∀ y ∈ ys.map lRy, Apart v y.v
  ok : ∀ x ∈ xs, i64 x
theorem Pl.start (h : Pz w0 w wr rb L s vf vg vy gs ys []) : Pl w0 w wr rb L s vf vg vy gs ys (.slice none 0 0) [] :=
  ⟨h, World.ownsRow_nil _ _ _ _, (Apart.none _).symm, (Apart.none _).symm, (Apart.none _).symm, fun _ _ => Apart.none _, by simp⟩
theorem Pl.num {v : Value} {xs : List Int} (h : Pl w0 w wr rb L s vf vg vy gs ys v xs) (hs : Sd w0 wr' rb L s') (hm : Mv wr wr' rb) : Pl w0 w wr' rb L s' vf vg vy gs ys v xs := by
  have h1 := h.f.pw.rl
  exact ⟨h.f.num hs hm, rw_mv h.own hm (by omega), h.a1, h.a2, h.a3, h.a4, h.ok⟩
theorem Pl.alloc {v : Value} {xs : List Int} (h : Pl w0 w wr rb L s vf vg vy gs ys v xs) (o : Obj) : Pl w0 w (wr.alloc o) rb L s vf vg vy gs ys v xs :=
  ⟨h.f.alloc o, rw_alloc h.own o, h.a1, h.a2, h.a3, h.a4, h.ok⟩
theorem Pl.more {v v' : Value} {xs : List Int} {x : Int} {g : Nat} (h : Pl w0 w wr rb L s vf vg vy gs ys v xs) (hx : i64 x) (hv' : v'.ownBlock = some g) (hg : wr.grownBy wr' v.ownBlock) (hat : v.ownBlock = some g ∨ wr.heap.size ≤ g) (ho : wr'.ownsRow (w.heap.size + 1 + 1) 3 1 v' (xs.length + 1) ((xs.map intC).flatten ++ [.int .i64 x])) :
    Pl w0 w wr' rb L s vf vg vy gs ys v' (xs ++ [x]) := by
  refine ⟨⟨h.f.pw.side h.own h.a1 h.a2 h.a3 (fun y hy => h.a4 y (by simpa using hy)) hg, h.f.ok⟩, by simpa [Rw.own, intC] using ho, ?_, ?_, ?_, ?_, ?_⟩
  · exact (Apart.grown h.a1.symm hv' hat (fun k hk => (World.ownsRow.lt h.f.pw.of k hk).2)).symm
  · exact (Apart.grown h.a2.symm hv' hat (fun k hk => (World.ownsRow.lt h.f.pw.og k hk).2)).symm
  · exact (Apart.grown h.a3.symm hv' hat (fun k hk => (World.ownsRow.lt h.f.pw.oy k hk).2)).symm
  · exact fun y hy => Apart.grown (h.a4 y hy) hv' hat (fun k hk => (World.ownsRow.lt (h.f.pw.oe y (by simpa using hy)) k hk).2)
  · intro y hy
    rcases List.mem_append.1 hy with e | e
    · exact h.ok y e
    · obtain rfl : y = x := by simpa using e
      exact hx
/-- One more layout. -/
theorem Pl.moreY {v vy' : Value} {xs : List Int} {g : Nat} (h : Pl w0 w wr rb L s vf vg vy gs ys v xs) (hv' : vy'.ownBlock = some g) (hg : wr.grownBy wr' vy.ownBlock) (hat : vy.ownBlock = some g ∨ wr.heap.size ≤ g) (ho : wr'.ownsRow (w.heap.size + 1 + 1) 52 1 vy' (ys.length + 1) ((ys.map lyC').flatten ++ [v])) :
    Pz w0 w (wr'.setCell ⟨w.heap.size + 1, 2, none⟩ vy') rb L s vf vg vy' gs (ys ++ [(xs, v)]) [] := by
  have h1 := (h.f.pw.stand h.own h.a1 h.a2 h.a3).growY (ry' := yR vy' (ys ++ [(xs, v)])) hv' hg hat (by simpa [Rw.own, lyC'] using ho)
  refine ⟨by simpa using h1, ⟨h.f.ok.g, fun y hy => ?_, h.f.ok.z⟩⟩
  rcases List.mem_append.1 hy with e | e
  · exact h.f.ok.y y e
  · obtain rfl : y = (xs, v) := by simpa using e
    exact h.ok
/-- One more function. -/
theorem Pz.moreF {w2 : World} {z : Fc × Value} {vf' : Value} {g : Nat} {o : Obj} (h : Pz w0 w wr rb L s vf vg vy gs ys zs) (hs : Sd w0 w2 rb L s') (hm : Mv wr w2 rb) (hz : (cR z).own wr.heap.size w2) (ok : z.1.name.size ≤ maxLen ∧ i64 z.1.params ∧ i64 z.1.regs ∧ ∀ x ∈ z.1.code, I5 x)
    (hv' : vf'.ownBlock = some g) (hg : (w2.alloc o).grownBy wr' vf.ownBlock) (hat : vf.ownBlock = some g ∨ (w2.alloc o).heap.size ≤ g) (ho : wr'.ownsRow (w.heap.size + 1 + 1) 55 4 vf' (zs.length + 1) ((zs.map fnC').flatten ++ fnC' z)) :
    Pz w0 w (wr'.setCell ⟨w.heap.size + 1, 0, none⟩ vf') rb L s' vf' vg vy gs ys (zs ++ [z]) := by
  have l1 := (Array.getElem?_eq_some_iff.1 h.pw.blk).1
  have hp := (h.num hs hm).alloc o
  have ap : ∀ u : Value, (∀ k, u.ownBlock = some k → k < wr.heap.size) → Apart u z.2 := fun u hu k h1 h2 => by
    have := hu k h1
    have := (World.ownsRow.lt hz k h2).1
    omega
  have h1 := (hp.pw.stand (l := cR z) (rw_alloc (World.ownsRow.mono hz (by omega)) o) (ap _ fun k hk => (World.ownsRow.lt h.pw.of k hk).2) (ap _ fun k hk => (World.ownsRow.lt h.pw.og k hk).2) (ap _ fun k hk => (World.ownsRow.lt h.pw.oy k hk).2)).growF (rf' := fR vf' (zs ++ [z])) hv' hg hat (by simpa [Rw.own] using ho)
  refine ⟨by simpa using h1, ⟨h.ok.g, h.ok.y, fun y hy => ?_⟩⟩
  rcases List.mem_append.1 hy with e | e
  · exact h.ok.z y e
  · obtain rfl : y = z := by simpa using e
    exact ok
end
theorem listS_append {α : Type} (f : Option Bs → α × Option Bs) : True := trivial
end Go.Proofs.Ytlkaeonedijfpaa
