/-
  The specification's reader of a function: what stands while it reads.
  The specification's reader: a function.
-/
import Derived.Test.YtlkaeonedijfpaaSA
import Derived.Test.YtlkaeonedijfpaaQK
import Derived.Deep.Onto
set_option linter.all false
namespace Go.Proofs.Ytlkaeonedijfpaa
open Go.RowKit C
theorem Sd.mvb {w0 w w' : World} {rb b : Nat} {L : Bs} {s : Option Bs} (h : Sd w0 w rb L s) (hg : w.grownBy w' (some b)) (hne : b ≠ rb) (hb : w0.heap.size ≤ b) : Sd w0 w' rb L s := by
  obtain ⟨A, cap, n, h1, r⟩ := h.blk
  exact ⟨⟨A, cap, n, (hg.block rb (Array.getElem?_eq_some_iff.1 h1).1 (by simp; omega)).trans h1, r⟩, h.bel.grown hg h.bel.size (fun k hk => by cases hk; exact hb), h.lb⟩
theorem Sd.grn {w0 w w' : World} {rb : Nat} {row : Option Nat} {L : Bs} {s : Option Bs} (h : Sd w0 w rb L s) (hg : w.grownBy w' row) (hne : ∀ k, row = some k → k ≠ rb ∧ w0.heap.size ≤ k) : Sd w0 w' rb L s := by
  obtain ⟨A, cap, n, h1, r⟩ := h.blk
  exact ⟨⟨A, cap, n, (hg.block rb (Array.getElem?_eq_some_iff.1 h1).1 (fun e => (hne _ e.symm).1 rfl)).trans h1, r⟩, h.bel.grown hg h.bel.size (fun k hk => (hne k hk).2), h.lb⟩
theorem Sd.lt {w0 w : World} {rb : Nat} {L : Bs} {s : Option Bs} (h : Sd w0 w rb L s) : rb < w.heap.size := by
  obtain ⟨A, cap, n, h1, _⟩ := h.blk
  exact (Array.getElem?_eq_some_iff.1 h1).1
theorem Sd.alloc {w0 w : World} {rb : Nat} {L : Bs} {s : Option Bs} (h : Sd w0 w rb L s) (o : Obj) : Sd w0 (w.alloc o) rb L s :=
  h.grn (World.grownBy_alloc _ _ none) (fun k hk => by cases hk)
abbrev fnO (nm : ByteArray) (a b : Int) (v : Value) : Obj := .cells #[.string nm, .int .i64 a, .int .i64 b, v] 55 (0, 0)
abbrev inO (c0 c1 c2 c3 c4 : Int) : Obj := .cells #[.int .i64 c0, .int .i64 c1, .int .i64 c2, .int .i64 c3, .int .i64 c4] 57 (0, 0)
/-- The function's box, the row of its instructions, the result's box. -/
structure Fb (w0 w wr : World) (rb fb : Nat) (L : Bs) (s : Option Bs) (nm : ByteArray) (a b : Int) (v : Value) (xs : List In) : Prop where
  rd : Sd w0 wr rb L s
  mv : Mv w wr rb
  rl : rb < w.heap.size
  w0l : w0.heap.size ≤ w.heap.size
  lo : w.heap.size < fb
  blk : wr.heap[fb]? = some (fnO nm a b v)
  res : wr.heap[w.heap.size]? = some zFn
  own : wr.ownsRow (fb + 1) 57 5 v xs.length (xs.map inC).flatten
  ok : ∀ x ∈ xs, I5 x
section
variable {w0 w wr wr' : World} {rb fb xb : Nat} {L : Bs} {s s' : Option Bs} {nm : ByteArray} {a b : Int} {v : Value} {xs : List In} {c0 c1 c2 c3 c4 : Int}
theorem Fb.num (h : Fb w0 w wr rb fb L s nm a b v xs) (hs : Sd w0 wr' rb L s') (hm : Mv wr wr' rb) : Fb w0 w wr' rb fb L s' nm a b v xs := by
  have l1 := (Array.getElem?_eq_some_iff.1 h.blk).1
  have l2 := (Array.getElem?_eq_some_iff.1 h.res).1
  have h1 := h.rl
  have h2 := h.lo
  exact ⟨hs, h.mv.trans hm, h.rl, h.w0l, h.lo, (hm.keep l1 (by omega)).trans h.blk, (hm.keep l2 (by omega)).trans h.res, own_mv h.own hm (by omega), h.ok⟩
theorem Fb.alloc (h : Fb w0 w wr rb fb L s nm a b v xs) (o : Obj) : Fb w0 w (wr.alloc o) rb fb L s nm a b v xs :=
  ⟨h.rd.alloc o, h.mv.alloc o, h.rl, h.w0l, h.lo, (heap_alloc_old _ _ (Array.getElem?_eq_some_iff.1 h.blk).1).trans h.blk, (heap_alloc_old _ _ (Array.getElem?_eq_some_iff.1 h.res).1).trans h.res, World.ownsRow.alloc h.own o, h.ok⟩
theorem Fb.set (h : Fb w0 w wr rb fb L s nm a b v xs) (hx : fb < xb) (hne : v.ownBlock ≠ some xb) (j : Nat) (u : Value) : Fb w0 w (wr.setCell ⟨xb, j, none⟩ u) rb fb L s nm a b v xs := by
  have l1 := (Array.getElem?_eq_some_iff.1 h.blk).1
  have l2 := (Array.getElem?_eq_some_iff.1 h.res).1
  have h1 := h.rl
  have h2 := h.lo
  have h3 := h.w0l
  have hg := grown_set wr xb j u
  exact ⟨h.rd.mvb hg (by omega) (by omega), h.mv.other (by omega), h.rl, h.w0l, h.lo, (hg.block fb l1 (by simp; omega)).trans h.blk, (hg.block w.heap.size l2 (by simp; omega)).trans h.res, h.own.kept hg (.inr hne), h.ok⟩
/-- With the instruction's box. -/
structure Fx (w0 w wr : World) (rb fb xb : Nat) (L : Bs) (s : Option Bs) (nm : ByteArray) (a b : Int) (v : Value) (xs : List In) (c0 c1 c2 c3 c4 : Int) : Prop where
  f : Fb w0 w wr rb fb L s nm a b v xs
  x : wr.heap[xb]? = some (inO c0 c1 c2 c3 c4)
  lo : fb < xb
  ne : v.ownBlock ≠ some xb
theorem Fx.new (h : Fb w0 w wr rb fb L s nm a b v xs) (c0 c1 c2 c3 c4 : Int) : Fx w0 w (wr.alloc (inO c0 c1 c2 c3 c4)) rb fb wr.heap.size L s nm a b v xs c0 c1 c2 c3 c4 :=
  ⟨h.alloc _, heap_alloc_new wr _, (Array.getElem?_eq_some_iff.1 h.blk).1, fun e => by have := (h.own.lt _ e).2; omega⟩
theorem Fx.num (h : Fx w0 w wr rb fb xb L s nm a b v xs c0 c1 c2 c3 c4) (hs : Sd w0 wr' rb L s') (hm : Mv wr wr' rb) : Fx w0 w wr' rb fb xb L s' nm a b v xs c0 c1 c2 c3 c4 := by
  have h1 := h.f.rl
  have h2 := h.f.lo
  have h3 := h.lo
  exact ⟨h.f.num hs hm, (hm.keep (Array.getElem?_eq_some_iff.1 h.x).1 (by omega)).trans h.x, h.lo, h.ne⟩
theorem Fx.set1 (h : Fx w0 w wr rb fb xb L s nm a b v xs c0 c1 c2 c3 c4) (u : Int) : Fx w0 w (wr.setCell ⟨xb, 1, none⟩ (.int .i64 u)) rb fb xb L s nm a b v xs c0 u c2 c3 c4 :=
  ⟨h.f.set h.lo h.ne _ _, by simp [World.setCell, Array.getElem?_modify, h.x], h.lo, h.ne⟩
theorem Fx.set2 (h : Fx w0 w wr rb fb xb L s nm a b v xs c0 c1 c2 c3 c4) (u : Int) : Fx w0 w (wr.setCell ⟨xb, 2, none⟩ (.int .i64 u)) rb fb xb L s nm a b v xs c0 c1 u c3 c4 :=
  ⟨h.f.set h.lo h.ne _ _, by simp [World.setCell, Array.getElem?_modify, h.x], h.lo, h.ne⟩
theorem Fx.set3 (h : Fx w0 w wr rb fb xb L s nm a b v xs c0 c1 c2 c3 c4) (u : Int) : Fx w0 w (wr.setCell ⟨xb, 3, none⟩ (.int .i64 u)) rb fb xb L s nm a b v xs c0 c1 c2 u c4 :=
  ⟨h.f.set h.lo h.ne _ _, by simp [World.setCell, Array.getElem?_modify, h.x], h.lo, h.ne⟩
theorem Fx.set4 (h : Fx w0 w wr rb fb xb L s nm a b v xs c0 c1 c2 c3 c4) (u : Int) : Fx w0 w (wr.setCell ⟨xb, 4, none⟩ (.int .i64 u)) rb fb xb L s nm a b v xs c0 c1 c2 c3 u :=
  ⟨h.f.set h.lo h.ne _ _, by simp [World.setCell, Array.getElem?_modify, h.x], h.lo, h.ne⟩
/-- Behind the append. -/
theorem Fb.more (h : Fb w0 w wr rb fb L s nm a b v xs) {x : In} (hx : I5 x) {g : Nat} {v' : Value} (hv' : v'.ownBlock = some g) (hg : wr.grownBy wr' v.ownBlock) (hat : v.ownBlock = some g ∨ wr.heap.size ≤ g) (ho : wr'.ownsRow (fb + 1) 57 5 v' (xs.length + 1) ((xs.map inC).flatten ++ inC x)) :
    Fb w0 w (wr'.setCell ⟨fb, 3, none⟩ v') rb fb L s nm a b v' (xs ++ [x]) := by
  have l1 := (Array.getElem?_eq_some_iff.1 h.blk).1
  have l2 := (Array.getElem?_eq_some_iff.1 h.res).1
  have h1 := h.rl
  have h2 := h.lo
  have h3 := h.w0l
  have hge : ∀ k, v.ownBlock = some k → fb + 1 ≤ k := fun k hk => (h.own.lt k hk).1
  have hs := grown_set wr' fb 3 v'
  have hb1 : wr'.heap[fb]? = some (fnO nm a b v) := (hg.block fb l1 (fun e => by have := hge _ e.symm; omega)).trans h.blk
  have hgf : g ≠ fb := by
    rcases hat with e | e
    · have := hge _ e; omega
    · omega
  refine ⟨(h.rd.grn hg (fun k hk => by have := hge _ hk; omega)).mvb hs (by omega) (by omega), ?_, h.rl, h.w0l, h.lo, ?_, ?_, ?_, ?_⟩
  · refine Mv.other (grown_trans h.mv hg (fun k hk => .inr (by have := hge _ hk; omega))) (by omega)
  · simp [World.setCell, Array.getElem?_modify, hb1]
  · exact (hs.block _ (by have := hg.size; omega) (by simp; omega)).trans ((hg.block _ l2 (fun e => by have := hge _ e.symm; omega)).trans h.res)
  · have := ho.kept hs (.inr (by rw [hv']; simp; omega))
    simpa using this
  · intro y hy
    rcases List.mem_append.1 hy with e | e
    · exact h.ok y e
    · obtain rfl : y = x := by simpa using e
      exact hx
end
theorem numS_i64 (s : Option Bs) : I64 (numS s).1 := by
  cases s with
  | none => show I64 0; unfold I64; omega
  | some l =>
    cases hn : numD l with
    | none => simp only [numS, hn]; unfold I64; omega
    | some q => simp only [numS, hn]; exact (num_codec.of _ _ _ hn).2
theorem wrap64_i64 (x : Int) : I64 (wrap64 x) := by unfold I64 wrap64; omega
theorem inS_i5 (a : Int) (s : Option Bs) : I5 (inS a s).1 := ⟨numS_i64 _, numS_i64 _, numS_i64 _, numS_i64 _, wrap64_i64 _⟩
/-- What the loop has read. -/
def Rest (N : Nat) (s0 : Option Bs) (k : Nat) (xs : List In) (a : Int) (s : Option Bs) : Prop := k ≤ N ∧ xs.length = k ∧ codeS N 0 s0 = (xs ++ (codeS (N - k) a s).1, (codeS (N - k) a s).2)
theorem Rest.start (N : Nat) (s0 : Option Bs) : Rest N s0 0 [] 0 s0 := ⟨Nat.zero_le _, rfl, rfl⟩
theorem Rest.next {N : Nat} {s0 : Option Bs} {k : Nat} {xs : List In} {a : Int} {l : Bs} (h : Rest N s0 k xs a (some l)) (hk : k < N) : Rest N s0 (k + 1) (xs ++ [(inS a (some l)).1]) (inS a (some l)).1.at' (inS a (some l)).2 := by
  obtain ⟨h1, h2, h3⟩ := h
  refine ⟨hk, by simp [h2], ?_⟩
  rw [h3, show N - k = (N - (k + 1)) + 1 by omega]
  simp only [codeS, List.append_assoc, List.singleton_append]
theorem Rest.done {N : Nat} {s0 : Option Bs} {xs : List In} {a : Int} {s : Option Bs} (h : Rest N s0 N xs a s) : codeS N 0 s0 = (xs, s) := by
  obtain ⟨h1, h2, h3⟩ := h
  rw [h3, Nat.sub_self]; simp [codeS]
theorem Rest.stop {N : Nat} {s0 : Option Bs} {k : Nat} {xs : List In} {a : Int} (h : Rest N s0 k xs a none) : codeS N 0 s0 = (xs, none) := by
  obtain ⟨h1, h2, h3⟩ := h
  rw [h3, codeS_bad]; simp
end Go.Proofs.Ytlkaeonedijfpaa

namespace Go.Proofs.Ytlkaeonedijfpaa
open Go.RowKit C
section
variable {w0 w wr wr' : World} {rb fb xb : Nat} {L : Bs} {s s' : Option Bs} {nm : ByteArray} {a b : Int} {v : Value} {xs : List In}
theorem Fb.new (h : Sd w0 wr rb L s) (hm : Mv (w.alloc zFn) wr rb) (rl : rb < w.heap.size) (hw : w0.heap.size ≤ w.heap.size) (nm : ByteArray) : Fb w0 w (wr.alloc (fnO nm 0 0 (.slice none 0 0))) rb wr.heap.size L s nm 0 0 (.slice none 0 0) [] := by
  have h1 := hm.size
  rw [World.size_alloc] at h1
  have h2 : wr.heap[w.heap.size]? = some zFn := (hm.keep (by simp) (by omega)).trans (heap_alloc_new w zFn)
  exact ⟨h.alloc _, (((Mv.refl w rb).alloc zFn).trans hm).alloc _, rl, hw, by omega, heap_alloc_new _ _, (heap_alloc_old _ _ (by omega)).trans h2, by simpa using World.ownsRow_nil _ _ _ _, by simp⟩
theorem Fb.own_ne (h : Fb w0 w wr rb fb L s nm a b v xs) : v.ownBlock ≠ some fb := fun e => by have := (h.own.lt _ e).1; omega
theorem Fb.putf (h : Fb w0 w wr rb fb L s nm a b v xs) {j : Nat} {u : Value} {a' b' : Int} (hb : (wr.setCell ⟨fb, j, none⟩ u).heap[fb]? = some (fnO nm a' b' v)) : Fb w0 w (wr.setCell ⟨fb, j, none⟩ u) rb fb L s nm a' b' v xs := by
  have l2 := (Array.getElem?_eq_some_iff.1 h.res).1
  have h1 := h.rl
  have h2 := h.lo
  have h3 := h.w0l
  have hg := grown_set wr fb j u
  exact ⟨h.rd.mvb hg (by omega) (by omega), h.mv.other (by omega), h.rl, h.w0l, h.lo, hb, (hg.block w.heap.size l2 (by simp; omega)).trans h.res, h.own.kept hg (.inr h.own_ne), h.ok⟩
theorem Fb.put1 (h : Fb w0 w wr rb fb L s nm a b v xs) (u : Int) : Fb w0 w (wr.setCell ⟨fb, 1, none⟩ (.int .i64 u)) rb fb L s nm u b v xs := h.putf (by simp [World.setCell, Array.getElem?_modify, h.blk])
theorem Fb.put2 (h : Fb w0 w wr rb fb L s nm a b v xs) (u : Int) : Fb w0 w (wr.setCell ⟨fb, 2, none⟩ (.int .i64 u)) rb fb L s nm a u v xs := h.putf (by simp [World.setCell, Array.getElem?_modify, h.blk])
end
theorem count_le {w0 w : World} {rb : Nat} {L : Bs} {s : Option Bs} (h : Sd w0 w rb L (countS s).2) : ∃ N : Nat, (countS s).1 = (N : Int) ∧ N ≤ L.length := by
  cases hs : (countS s).2 with
  | none =>
    refine ⟨0, ?_, Nat.zero_le _⟩
    cases s with
    | none => rfl
    | some l =>
      cases hc : countD l with
      | none => rw [count_no hc]; rfl
      | some q => obtain ⟨n, r⟩ := q; rw [count_yes hc] at hs; cases hs
  | some r =>
    obtain ⟨k, h1, h2, _⟩ := textS_some hs
    rw [hs] at h
    obtain ⟨A, cap, n, _, _, _, _, h5, h6⟩ := h.blk
    have := congrArg List.length (h6 _ rfl)
    rw [List.length_drop] at this
    exact ⟨k, h1, by omega⟩
/-- What the reader of a function answers. -/
def QFn (w0 w : World) (rb : Nat) (L : Bs) (o : Fc × Option Bs) (e : Ending) (w' : World) : Prop :=
  ∃ v, e = .returned (.agg #[.string o.1.name, .int .i64 o.1.params, .int .i64 o.1.regs, v]) ∧ Sd w0 w' rb L o.2 ∧ Mv w w' rb ∧ w'.ownsRow w.heap.size 57 5 v o.1.code.length (o.1.code.map inC).flatten ∧ ∀ x ∈ o.1.code, I5 x
theorem cells5' {w : World} {b : Nat} {a0 a1 a2 a3 a4 : Value} {t : TypeId} (h : w.heap[b]? = some (.cells #[a0, a1, a2, a3, a4] t (0, 0))) : (w.cell? ⟨b, 0, none⟩ = some a0 ∧ w.cell? ⟨b, 1, none⟩ = some a1 ∧ w.cell? ⟨b, 2, none⟩ = some a2 ∧ w.cell? ⟨b, 3, none⟩ = some a3 ∧ w.cell? ⟨b, 4, none⟩ = some a4) ∧
    w.frozen? ⟨b, 0, none⟩ = false ∧ w.frozen? ⟨b, 1, none⟩ = false ∧ w.frozen? ⟨b, 2, none⟩ = false ∧ w.frozen? ⟨b, 3, none⟩ = false ∧ w.frozen? ⟨b, 4, none⟩ = false := by
  simp [World.cell?, World.frozen?, h]
theorem after_fb {w0 w wr w6 : World} {rb fb : Nat} {L : Bs} {s : Option Bs} {nm : ByteArray} {a b : Int} {v : Value} {xs : List In} {o : Obj} (h : Fb w0 w wr rb fb L s nm a b v xs) (hg : (wr.alloc o).grownBy w6 v.ownBlock) : w6.cell? ⟨fb, 3, none⟩ = some v ∧ w6.frozen? ⟨fb, 3, none⟩ = false := by
  have h1 := (h.alloc o).blk
  have h2 := (hg.block fb (Array.getElem?_eq_some_iff.1 h1).1 (fun e => h.own_ne e.symm)).trans h1
  exact ⟨(cells4 h2).1.2.2.2, (cells4 h2).2.2.2.2⟩
theorem own_shape {w : World} {base n sz : Nat} {t : TypeId} {v : Value} {l : List Value} (h : w.ownsRow base t sz v n l) : ∃ A m c, v = .slice A m c := by
  rcases h.2 with ⟨rfl, _⟩ | ⟨g, cap, cur, rfl, _⟩
  · exact ⟨_, _, _, rfl⟩
  · exact ⟨_, _, _, rfl⟩
theorem sd_bad_cell {w0 w : World} {rb : Nat} {L : Bs} {s : Option Bs} (h : Sd w0 w rb L s) : w.cell? ⟨rb, 2, none⟩ = some (.bool (isBad s)) := by
  obtain ⟨A, cap, n, h1, _⟩ := h.blk
  simp [World.cell?, h1]
theorem Fb.fin {w0 w wr : World} {rb fb : Nat} {L : Bs} {s : Option Bs} {nm : ByteArray} {a b : Int} {v : Value} {xs : List In} (h : Fb w0 w wr rb fb L s nm a b v xs) : QFn w0 w rb L (⟨nm, a, b, xs⟩, s) (.returned (.agg #[.string nm, .int .i64 a, .int .i64 b, v])) ((((wr.setCell ⟨w.heap.size, 0, none⟩ (.string nm)).setCell ⟨w.heap.size, 1, none⟩ (.int .i64 a)).setCell ⟨w.heap.size, 2, none⟩ (.int .i64 b)).setCell ⟨w.heap.size, 3, none⟩ v) := by
  have h1 := h.rl
  have h2 := h.lo
  have h3 := h.w0l
  have hne : v.ownBlock ≠ some w.heap.size := fun e => by have := (h.own.lt _ e).1; omega
  refine ⟨v, rfl, ?_, ?_, ?_, h.ok⟩
  · exact (((h.rd.mvb (grown_set _ _ _ _) (by omega) h3).mvb (grown_set _ _ _ _) (by omega) h3).mvb (grown_set _ _ _ _) (by omega) h3).mvb (grown_set _ _ _ _) (by omega) h3
  · exact (((h.mv.other (Nat.le_refl _)).other (Nat.le_refl _)).other (Nat.le_refl _)).other (Nat.le_refl _)
  · exact World.ownsRow.mono ((((h.own.kept (grown_set _ _ _ _) (.inr hne)).kept (grown_set _ _ _ _) (.inr hne)).kept (grown_set _ _ _ _) (.inr hne)).kept (grown_set _ _ _ _) (.inr hne)) (by omega)
set_option maxRecDepth 100000 in
set_option maxHeartbeats 8000000 in
theorem qrfunction_any (w0 w : World) (rb : Nat) (L : Bs) (s : Option Bs) (h : Sd w0 w rb L s) (hL : L.length ≤ 1100000) :
    Calls Try.prog 59 #[.pointer (some ⟨rb, 0, none⟩)] w (QFn w0 w rb L (fnS s)) := by
  obtain ⟨i0, hi, hz0, hz1, hz2⟩ := info_parts infoIn
  have HN : Hid (∀ V s, Sd w0 V rb L s → Calls Try.prog 58 #[.pointer (some ⟨rb, 0, none⟩)] V (SGives w0 V rb L (.int .i64 (numS s).1) (numS s).2)) := Lib.hid fun V s => qnumber_any w0 V rb L s
  have hrl := h.lt
  have hw0 := h.bel.size
  have H1 := Lib.hid (qrtext_any w0 (w.alloc zFn) rb L s (h.alloc _))
  have HF : Hid (fnS s = (⟨(textS s).1, (numS (textS s).2).1, (numS (numS (textS s).2).2).1, (codeS (countS (numS (numS (textS s).2).2).2).1.toNat 0 (countS (numS (numS (textS s).2).2).2).2).1⟩, (codeS (countS (numS (numS (textS s).2).2).2).1.toNat 0 (countS (numS (numS (textS s).2).2).2).2).2)) := Lib.hid rfl
  clear h
  obtain ⟨nm, hnm⟩ : ∃ x, (textS s).1 = x := ⟨_, rfl⟩
  obtain ⟨s1, hs1⟩ : ∃ x, (textS s).2 = x := ⟨_, rfl⟩
  rw [hnm, hs1] at H1 HF
  obtain ⟨a, ha⟩ : ∃ x, (numS s1).1 = x := ⟨_, rfl⟩
  obtain ⟨s2, hs2⟩ : ∃ x, (numS s1).2 = x := ⟨_, rfl⟩
  rw [ha, hs2] at HF
  obtain ⟨b, hb⟩ : ∃ x, (numS s2).1 = x := ⟨_, rfl⟩
  obtain ⟨s3, hs3⟩ : ∃ x, (numS s2).2 = x := ⟨_, rfl⟩
  rw [hb, hs3] at HF
  have HA := Lib.hid ha
  have HS2 := Lib.hid hs2
  have HBb := Lib.hid hb
  have HS3 := Lib.hid hs3
  clear ha hs2 hb hs3 hnm hs1
  go_enter Try.func59, Try.ntmps59
  go_wp2_with fail
  refine H1.out.mono ?_
  rintro e w1 ⟨rfl, hr1, hm1⟩
  have F1 := Lib.hid (Fb.new (w := w) hr1 hm1 hrl hw0 nm)
  obtain ⟨fb, hfb⟩ : ∃ n, w1.heap.size = n := ⟨_, rfl⟩
  rw [hfb] at F1
  clear hr1 hm1 H1
  have HF2 := HN.out _ _ F1.out.rd
  rw [HA.out, HS2.out] at HF2
  have H2 := Lib.hid HF2
  clear HF2
  go_wp2_with fail
  refine H2.out.mono ?_
  rintro e w2 ⟨rfl, hr2, hm2⟩
  have f2 := F1.out.num hr2 hm2
  obtain ⟨⟨c0, c1, c2, c3⟩, z0, z1, z2, z3⟩ := cells4 f2.blk
  have F2 := Lib.hid (f2.put1 a)
  have HF3 := HN.out _ _ F2.out.rd
  rw [HBb.out, HS3.out] at HF3
  have H3 := Lib.hid HF3
  clear hr2 hm2 H2 f2 HF3
  go_wp2_with fail
  refine H3.out.mono ?_
  rintro e w3 ⟨rfl, hr3, hm3⟩
  have f3 := F2.out.num hr3 hm3
  clear c0 c1 c2 c3 z0 z1 z2 z3
  obtain ⟨⟨c0, c1, c2, c3⟩, z0, z1, z2, z3⟩ := cells4 f3.blk
  have F3 := Lib.hid (f3.put2 b)
  have H4 := Lib.hid (qcount_any w0 _ rb L s3 F3.out.rd)
  clear hr3 hm3 H3 f3
  go_wp2_with fail
  refine H4.out.mono ?_
  rintro e w4 ⟨rfl, hr4, hm4⟩
  obtain ⟨N, hN, hNL⟩ := count_le hr4
  have F4 := Lib.hid (F3.out.num hr4 hm4)
  obtain ⟨s4, hs4⟩ : ∃ x, (countS s3).2 = x := ⟨_, rfl⟩
  rw [hs4, hN] at HF
  rw [hs4] at F4
  rw [hN]
  rw [Int.toNat_natCast] at HF
  clear hr4 hm4 H4 c0 c1 c2 c3 z0 z1 z2 z3 hN hs4
  go_wp2_with fail
  go_loopw [5, 6] (fun s5 s6 wr => ∃ (k : Nat) (xs : List In) (at' : Int) (sk : Option Bs) (v : Value), s6 = .int .i64 (k : Int) ∧ s5 = .int .i64 at' ∧ Rest N s4 k xs at' sk ∧ Fb w0 w wr rb fb L sk nm a b v xs) (fun _ s6 _ => N - (intOf s6).toNat)
  case atStart => exact ⟨0, [], 0, s4, _, rfl, rfl, Rest.start _ _, F4.out⟩
  case round =>
    obtain ⟨k, xs, at', sk, v, rfl, rfl, hre, hf⟩ := hrel
    obtain ⟨Av, mv, cv', rfl⟩ := own_shape hf.own
    have HRE := Lib.hid hre
    have F := Lib.hid hf
    have hkN := hre.1
    have hbd := sd_bad_cell hf.rd
    clear hre hf
    cases sk with
    | none =>
      simp only [isBad] at hbd
      have HD := Lib.hid HRE.out.stop
      obtain ⟨⟨c0, c1, c2, c3⟩, z0, z1, z2, z3⟩ := cells4 F.out.blk
      obtain ⟨⟨d0, d1, d2, d3⟩, y0, y1, y2, y3⟩ := cells4 F.out.res
      by_cases hlt : k < N
      all_goals
        go_wp2
        rw [HF.out, HD.out]
        try simp only [Exit.inBlock, Exit.then]
        refine bodyPost_ret (results_cell_row rfl _ _ w.heap.size 55 #[.string nm, .int .i64 a, .int .i64 b, .slice Av mv cv'] (0, 0) _ rfl (blk4 F.out.res) Try.underlying55 rfl infoFn4) rfl ?_
        exact F.out.fin
    | some l =>
      simp only [isBad] at hbd
      by_cases hlt : k < N
      · obtain ⟨n1, hn1⟩ : ∃ x, (numS (some l)).1 = x := ⟨_, rfl⟩
        obtain ⟨q1, hq1⟩ : ∃ x, (numS (some l)).2 = x := ⟨_, rfl⟩
        obtain ⟨n2, hn2⟩ : ∃ x, (numS q1).1 = x := ⟨_, rfl⟩
        obtain ⟨q2, hq2⟩ : ∃ x, (numS q1).2 = x := ⟨_, rfl⟩
        obtain ⟨n3, hn3⟩ : ∃ x, (numS q2).1 = x := ⟨_, rfl⟩
        obtain ⟨q3, hq3⟩ : ∃ x, (numS q2).2 = x := ⟨_, rfl⟩
        obtain ⟨n4, hn4⟩ : ∃ x, (numS q3).1 = x := ⟨_, rfl⟩
        obtain ⟨q4, hq4⟩ : ∃ x, (numS q3).2 = x := ⟨_, rfl⟩
        obtain ⟨n5, hn5⟩ : ∃ x, (numS q4).1 = x := ⟨_, rfl⟩
        obtain ⟨q5, hq5⟩ : ∃ x, (numS q4).2 = x := ⟨_, rfl⟩
        have hin : inS at' (some l) = (⟨n1, n2, n3, n4, wrap64 (at' + n5)⟩, q5) := by simp only [inS, hn1, hq1, hn2, hq2, hn3, hq3, hn4, hq4, hn5, hq5]
        have HNX := HRE.out.next hlt
        have hI5 := inS_i5 at' (some l)
        rw [hin] at HNX hI5
        have HNXT := Lib.hid HNX
        have HI5 := Lib.hid hI5
        have E1 := Lib.hid (And.intro hn1 hq1)
        have E2 := Lib.hid (And.intro hn2 hq2)
        have E3 := Lib.hid (And.intro hn3 hq3)
        have E4 := Lib.hid (And.intro hn4 hq4)
        have E5 := Lib.hid (And.intro hn5 hq5)
        have HXL : Hid (xs.length + 1 ≤ 1100000) := Lib.hid (by have := HRE.out.2.1; omega)
        clear hn1 hq1 hn2 hq2 hn3 hq3 hn4 hq4 hn5 hq5 hin HNX hI5
        have g1 := HN.out _ _ F.out.rd
        rw [E1.out.1, E1.out.2] at g1
        have G1 := Lib.hid g1
        clear g1
        go_wp2_with fail
        refine G1.out.mono ?_
        rintro e v1 ⟨rfl, hr1, hm1⟩
        have X1 := Lib.hid (Fx.new (F.out.num hr1 hm1) n1 0 0 0 0)
        obtain ⟨xb, hxb⟩ : ∃ n, v1.heap.size = n := ⟨_, rfl⟩
        rw [hxb] at X1
        have g2 := HN.out _ _ X1.out.f.rd
        rw [E2.out.1, E2.out.2] at g2
        have G2 := Lib.hid g2
        clear g2 hr1 hm1 G1 hbd
        go_wp2_with fail
        refine G2.out.mono ?_
        rintro e v2 ⟨rfl, hr2, hm2⟩
        have x2 := X1.out.num hr2 hm2
        obtain ⟨⟨d0, d1, d2, d3, d4⟩, y0, y1, y2, y3, y4⟩ := cells5' x2.x
        have X2 := Lib.hid (x2.set1 n2)
        have g3 := HN.out _ _ X2.out.f.rd
        rw [E3.out.1, E3.out.2] at g3
        have G3 := Lib.hid g3
        clear g3 hr2 hm2 G2 x2
        go_wp2_with fail
        refine G3.out.mono ?_
        rintro e v3 ⟨rfl, hr3, hm3⟩
        have x3 := X2.out.num hr3 hm3
        clear d0 d1 d2 d3 d4 y0 y1 y2 y3 y4
        obtain ⟨⟨d0, d1, d2, d3, d4⟩, y0, y1, y2, y3, y4⟩ := cells5' x3.x
        have X3 := Lib.hid (x3.set2 n3)
        have g4 := HN.out _ _ X3.out.f.rd
        rw [E4.out.1, E4.out.2] at g4
        have G4 := Lib.hid g4
        clear g4 hr3 hm3 G3 x3
        go_wp2_with fail
        refine G4.out.mono ?_
        rintro e v4 ⟨rfl, hr4, hm4⟩
        have x4 := X3.out.num hr4 hm4
        clear d0 d1 d2 d3 d4 y0 y1 y2 y3 y4
        obtain ⟨⟨d0, d1, d2, d3, d4⟩, y0, y1, y2, y3, y4⟩ := cells5' x4.x
        have X4 := Lib.hid (x4.set3 n4)
        have g5 := HN.out _ _ X4.out.f.rd
        rw [E5.out.1, E5.out.2] at g5
        have G5 := Lib.hid g5
        clear g5 hr4 hm4 G4 x4
        go_wp2_with fail
        refine G5.out.mono ?_
        rintro e v5 ⟨rfl, hr5, hm5⟩
        have x5 := X4.out.num hr5 hm5
        clear d0 d1 d2 d3 d4 y0 y1 y2 y3 y4
        obtain ⟨⟨d0, d1, d2, d3, d4⟩, y0, y1, y2, y3, y4⟩ := cells5' x5.x
        have X5 := Lib.hid (x5.set4 (wrap64 (at' + n5)))
        clear hr5 hm5 G5 x5
        go_upto_region 15 with fail
        generalize v5.setCell ⟨xb, 4, none⟩ (.int .i64 (wrap64 (at' + n5))) = V5 at X5 ⊢
        clear d0 d1 d2 d3 d4 y0 y1 y2 y3 y4
        obtain ⟨⟨d0, d1, d2, d3, d4⟩, y0, y1, y2, y3, y4⟩ := cells5' X5.out.x
        obtain ⟨⟨c0, c1, c2, c3⟩, z0, z1, z2, z3⟩ := cells4 X5.out.f.blk
        have hfl := (Array.getElem?_eq_some_iff.1 X5.out.f.blk).1
        have HXL2 := HXL.out
        go_wp2_with (at_builtin; refine wpList_append_lies _ rfl _ _ _ rfl (fb + 1) 57 i0 _ 5 40 Try.underlying53 hi hz0 hz1 hz2 rfl (by omega) (.slice Av mv cv') xs.length _ rfl (World.ownsRow.alloc X5.out.f.own _) ⟨V5.heap.size, 0, none⟩ 1 1 [.int .i64 n1, .int .i64 n2, .int .i64 n3, .int .i64 n4, .int .i64 (wrap64 (at' + n5))] rfl rfl (World.news_of_block (cs := #[.int .i64 n1, .int .i64 n2, .int .i64 n3, .int .i64 n4, .int .i64 (wrap64 (at' + n5))]) (t := 57) (fr := (0, 0)) (heap_alloc_new V5 _)) (by simp [Value.oneCell']) (by omega) (by unfold maxLen; omega) (by omega) (by simp; omega) (V5.heap.size + 1) (by simp) ?_; intro g1 cap1 w6 hown1 hgr1 hat1 hlt1; have hmo := Lib.hid (Fb.more (X5.out.f.alloc _) HI5.out rfl hgr1 (hat1.imp id fun e => by rw [e]; simp) hown1); obtain ⟨fc0, fz3⟩ := after_fb X5.out.f hgr1)
        go_roundw
        case rel => exact ⟨k + 1, _, _, q5, _, by go_num, rfl, HNXT.out, hmo.out⟩
        case measure => simp [intOf]; omega
      · obtain rfl : k = N := by omega
        have HD := Lib.hid HRE.out.done
        obtain ⟨⟨c0, c1, c2, c3⟩, z0, z1, z2, z3⟩ := cells4 F.out.blk
        obtain ⟨⟨d0, d1, d2, d3⟩, y0, y1, y2, y3⟩ := cells4 F.out.res
        go_wp2
        rw [HF.out, HD.out]
        try simp only [Exit.inBlock, Exit.then]
        refine bodyPost_ret (results_cell_row rfl _ _ w.heap.size 55 #[.string nm, .int .i64 a, .int .i64 b, .slice Av mv cv'] (0, 0) _ rfl (blk4 F.out.res) Try.underlying55 rfl infoFn4) rfl ?_
        exact F.out.fin
end Go.Proofs.Ytlkaeonedijfpaa
