/-
  The program's instruction (the closure in function).
  The program's instruction where a number is missing.
  The program's instruction, whole.
-/
import Derived.Test.YtlkaeonedijfpaaQE
import Derived.Deep.RegionHeld3
import Derived.Deep.CutRange
import Derived.Deep.RegionLaw
import Derived.Deep.DeepCutAuto
import Derived.Deep.RegionHeld2
set_option linter.all false
namespace Go.Proofs.Ytlkaeonedijfpaa
open Go.RowKit C
/-- Two boxes have moved, and there may be new memory. -/
structure Mw (w w' : World) (a b : Nat) : Prop where
  os : w'.os = w.os
  tape : w'.tape = w.tape
  output : w'.output = w.output
  size : w.heap.size ≤ w'.heap.size
  block : ∀ k, k < w.heap.size → k ≠ a → k ≠ b → w'.heap[k]? = w.heap[k]?
theorem Mw.of {w w' : World} {a b : Nat} (h : Mv w w' a) : Mw w w' a b := ⟨h.os, h.tape, h.output, h.size, fun k hk h1 _ => h.keep hk h1⟩
theorem Mw.trans {w w1 w2 : World} {a b : Nat} (h : Mw w w1 a b) (h1 : Mw w1 w2 a b) : Mw w w2 a b :=
  ⟨h1.os.trans h.os, h1.tape.trans h.tape, h1.output.trans h.output, Nat.le_trans h.size h1.size, fun k hk e1 e2 => (h1.block k (Nat.lt_of_lt_of_le hk h.size) e1 e2).trans (h.block k hk e1 e2)⟩
theorem Mw.set {w w1 : World} {a b j : Nat} {v : Value} (h : Mw w w1 a b) : Mw w (w1.setCell ⟨b, j, none⟩ v) a b := by
  have g := grown_set w1 b j v
  exact ⟨g.os.trans h.os, g.tape.trans h.tape, g.output.trans h.output, Nat.le_trans h.size g.size, fun k hk e1 e2 => (g.block k (Nat.lt_of_lt_of_le hk h.size) (fun e => e2 (by simpa using e))).trans (h.block k hk e1 e2)⟩
theorem Mw.alloc {w w1 : World} {a b : Nat} (h : Mw w w1 a b) (o : Obj) : Mw w (w1.alloc o) a b :=
  ⟨h.os, h.tape, h.output, by have := h.size; simp; omega, fun k hk e1 e2 => (heap_alloc_old w1 o (Nat.lt_of_lt_of_le hk h.size)).trans (h.block k hk e1 e2)⟩
theorem Mw.other {w w1 : World} {a b c j : Nat} {v : Value} (h : Mw w w1 a b) (hc : w.heap.size ≤ c) : Mw w (w1.setCell ⟨c, j, none⟩ v) a b := by
  have g := grown_set w1 c j v
  refine ⟨g.os.trans h.os, g.tape.trans h.tape, g.output.trans h.output, Nat.le_trans h.size g.size, fun k hk e1 e2 => (g.block k (Nat.lt_of_lt_of_le hk h.size) ?_).trans (h.block k hk e1 e2)⟩
  intro e
  have : k = c := by simpa using e
  omega
theorem Mw.drew {w w1 : World} {a b : Nat} (h : Mw w w1 a b) : Mw w w1.drew a b := ⟨h.os, h.tape, h.output, h.size, h.block⟩
theorem Rd.drew {w0 w : World} {rb : Nat} {l : Bs} (h : Rd w0 w rb l) : Rd w0 w.drew rb l := ⟨h.blk, h.bel.drew, h.lb⟩
theorem Mv.drew {w w' : World} {rb : Nat} (h : Mv w.drew w' rb) : Mv w w' rb := ⟨h.os, h.tape, h.output, h.size, h.block⟩
/-- The boxes of the reader's pointer and of the offset. -/
structure Bo (w : World) (pb ab rb : Nat) (at0 : Int) : Prop where
  p : w.heap[pb]? = some (.cells #[.pointer (some ⟨rb, 0, none⟩)] 68 (0, 0))
  a : w.heap[ab]? = some (.cells #[.int .i64 at0] 3 (0, 0))
  n1 : pb ≠ rb
  n2 : ab ≠ rb
  n3 : pb ≠ ab
theorem Bo.mv {w w' : World} {pb ab rb : Nat} {at0 : Int} (h : Bo w pb ab rb at0) (hm : Mv w w' rb) : Bo w' pb ab rb at0 :=
  ⟨(hm.keep (Array.getElem?_eq_some_iff.1 h.p).1 h.n1).trans h.p, (hm.keep (Array.getElem?_eq_some_iff.1 h.a).1 h.n2).trans h.a, h.n1, h.n2, h.n3⟩
theorem Bo.pc {w : World} {pb ab rb : Nat} {at0 : Int} (h : Bo w pb ab rb at0) : w.cell? ⟨pb, 0, none⟩ = some (.pointer (some ⟨rb, 0, none⟩)) := by simp [World.cell?, h.p]
theorem Bo.ac {w : World} {pb ab rb : Nat} {at0 : Int} (h : Bo w pb ab rb at0) : w.cell? ⟨ab, 0, none⟩ = some (.int .i64 at0) ∧ w.frozen? ⟨ab, 0, none⟩ = false := by simp [World.cell?, World.frozen?, h.a]
abbrev zIn : Obj := .cells #[.int .i64 0, .int .i64 0, .int .i64 0, .int .i64 0, .int .i64 0] 57
theorem Mv.drew' {w w' : World} {rb : Nat} (h : Mv w w' rb) : Mv w w'.drew rb := ⟨h.os, h.tape, h.output, h.size, h.block⟩
/-- Behind the region: the box of the instruction. -/
structure Lf (w0 V0 W : World) (rb n : Nat) (r4 : Bs) (cs : Array Value) : Prop where
  rd : Rd w0 W rb r4
  mv : Mv V0 W rb
  blk : W.heap[n]? = some (.cells cs 57 (0, 0))
  ge : V0.heap.size ≤ n
  ne : n ≠ rb
theorem lf_alloc {w0 V0 w4 : World} {rb : Nat} {r4 : Bs} {cs : Array Value} (hr : Rd w0 w4 rb r4) (hm : Mv V0 w4 rb) : Lf w0 V0 (w4.alloc (.cells cs 57)) rb w4.heap.size r4 cs :=
  ⟨hr.alloc _, hm.alloc _, heap_alloc_new _ _, hm.size, by have := hr.lt; omega⟩
theorem lf_set {w0 V0 w4 V : World} {rb n : Nat} {r4 : Bs} {a0 a1 a2 a3 a4 : Value} (hr : Rd w0 w4 rb r4) (hm : Mv V0 w4 rb) (hv : Mv (V.alloc zIn) w4 rb) (hn : n = V.heap.size) (hg : V0.heap.size ≤ n) (hne : n ≠ rb) (hw : w0.heap.size ≤ V0.heap.size) :
    Lf w0 V0 (((((w4.setCell ⟨n, 0, none⟩ a0).setCell ⟨n, 1, none⟩ a1).setCell ⟨n, 2, none⟩ a2).setCell ⟨n, 3, none⟩ a3).setCell ⟨n, 4, none⟩ a4) rb n r4 #[a0, a1, a2, a3, a4] := by
  subst hn
  have hb : w4.heap[V.heap.size]? = some zIn := (hv.keep (by simp) hne).trans (heap_alloc_new V zIn)
  have hw2 : w0.heap.size ≤ V.heap.size := Nat.le_trans hw hg
  refine ⟨((((hr.other hne hw2).other hne hw2).other hne hw2).other hne hw2).other hne hw2, ((((hm.other hg).other hg).other hg).other hg).other hg, ?_, hg, hne⟩
  simp [World.setCell, Array.getElem?_modify, hb]
theorem ne_sz {w0 w : World} {rb : Nat} {l : Bs} (h : Rd w0 w rb l) : w.heap.size ≠ rb := by have := h.lt; omega
theorem bx5 {V W : World} {rb n : Nat} (hm : Mv (V.alloc zIn) W rb) (hn : n = V.heap.size) (hne : n ≠ rb) :
    (W.cell? ⟨n, 0, none⟩ = some (.int .i64 0) ∧ W.cell? ⟨n, 1, none⟩ = some (.int .i64 0) ∧ W.cell? ⟨n, 2, none⟩ = some (.int .i64 0) ∧ W.cell? ⟨n, 3, none⟩ = some (.int .i64 0) ∧ W.cell? ⟨n, 4, none⟩ = some (.int .i64 0)) ∧
    (W.frozen? ⟨n, 0, none⟩ = false ∧ W.frozen? ⟨n, 1, none⟩ = false ∧ W.frozen? ⟨n, 2, none⟩ = false ∧ W.frozen? ⟨n, 3, none⟩ = false ∧ W.frozen? ⟨n, 4, none⟩ = false) := by
  subst hn
  have hb : W.heap[V.heap.size]? = some zIn := (hm.keep (by simp) hne).trans (heap_alloc_new V zIn)
  simp [World.cell?, World.frozen?, hb]
theorem Bo.other {w : World} {pb ab rb n j : Nat} {at0 : Int} {v : Value} (h : Bo w pb ab rb at0) (h1 : n ≠ pb) (h2 : n ≠ ab) : Bo (w.setCell ⟨n, j, none⟩ v) pb ab rb at0 :=
  ⟨((grown_set w n j v).block pb (Array.getElem?_eq_some_iff.1 h.p).1 (fun e => h1 (by simpa using e.symm))).trans h.p, ((grown_set w n j v).block ab (Array.getElem?_eq_some_iff.1 h.a).1 (fun e => h2 (by simpa using e.symm))).trans h.a, h.n1, h.n2, h.n3⟩
theorem Bo.set {w : World} {pb ab rb : Nat} {at0 x y : Int} (h : Bo w pb ab rb at0) (e : y = x) : Bo (w.setCell ⟨ab, 0, none⟩ (.int .i64 y)) pb ab rb x := by
  subst e
  refine ⟨((grown_set w ab 0 _).block pb (Array.getElem?_eq_some_iff.1 h.p).1 (fun e => h.n3 (by simpa using e))).trans h.p, ?_, h.n1, h.n2, h.n3⟩
  simp [World.setCell, Array.getElem?_modify, h.a]
theorem infoIn5 : (Try.prog.info? 57).map (·.size) = some 5 := by kernel_rfl
def InPost (w0 w : World) (rb pb ab : Nat) (o : Option (In × Bs)) (e : Ending) (w' : World) : Prop :=
  match o with
  | none => e = PE ∧ Mw w w' rb ab
  | some (x, r) => e = .returned (.agg #[.int .i64 x.op, .int .i64 x.a, .int .i64 x.b, .int .i64 x.c, .int .i64 x.at']) ∧ Rd w0 w' rb r ∧ Bo w' pb ab rb x.at' ∧ Mw w w' rb ab
set_option maxRecDepth 100000 in
set_option maxHeartbeats 8000000 in
theorem oin_some (w0 w : World) (rb pb ab : Nat) (at0 : Int) (l r1 r2 r3 r4 r5 : Bs) (op a b c t : Int) (h : Rd w0 w rb l) (hb : Bo w pb ab rb at0) (hab : w0.heap.size ≤ ab) (h1 : numD l = some (op, r1)) (h2 : numD r1 = some (a, r2)) (h3 : numD r2 = some (b, r3)) (h4 : numD r3 = some (c, r4)) (h5 : numD r4 = some (t, r5)) :
    Calls Try.prog 76 #[.pointer (some ⟨pb, 0, none⟩), .pointer (some ⟨ab, 0, none⟩)] w (InPost w0 w rb pb ab (some (⟨op, a, b, c, wrap64 (at0 + t)⟩, r5))) := by
  have hlt := h.lt
  have HRA := Lib.hid ((h.alloc zIn).drew)
  have HBA : Hid (Bo (w.alloc zIn).drew pb ab rb at0) := Lib.hid (hb.mv (Mv.drew' ((Mv.refl w rb).alloc zIn)))
  have c0 := HBA.out.pc
  have HK : Hid (∀ V, Mv (w.alloc zIn).drew V rb → V.cell? ⟨pb, 0, none⟩ = some (.pointer (some ⟨rb, 0, none⟩))) := Lib.hid fun V hV => (HBA.out.mv hV).pc
  have N1 := Lib.hid h1
  have N2 := Lib.hid h2
  have N3 := Lib.hid h3
  have N4 := Lib.hid h4
  have N5 := Lib.hid h5
  have KC : Hid (∀ V W, (V.cell? ⟨pb, 0, none⟩ = some (.pointer (some ⟨rb, 0, none⟩)) ∧ Mv (w.alloc zIn).drew V rb) → Mv V W rb → (W.cell? ⟨pb, 0, none⟩ = some (.pointer (some ⟨rb, 0, none⟩)) ∧ Mv (w.alloc zIn).drew W rb)) := Lib.hid fun V W h hm => ⟨HK.out _ (h.2.trans hm), h.2.trans hm⟩
  have KA : Hid (∀ V o, (V.cell? ⟨pb, 0, none⟩ = some (.pointer (some ⟨rb, 0, none⟩)) ∧ Mv (w.alloc zIn).drew V rb) → ((V.alloc o).cell? ⟨pb, 0, none⟩ = some (.pointer (some ⟨rb, 0, none⟩)) ∧ Mv (w.alloc zIn).drew (V.alloc o) rb)) := Lib.hid fun V o h => ⟨HK.out _ (h.2.alloc o), h.2.alloc o⟩
  have KS : Hid (∀ V b a0 a1 a2 a3 a4, (w.alloc zIn).drew.heap.size ≤ b → (V.cell? ⟨pb, 0, none⟩ = some (.pointer (some ⟨rb, 0, none⟩)) ∧ Mv (w.alloc zIn).drew V rb) → (((((((V.setCell ⟨b, 0, none⟩ a0).setCell ⟨b, 1, none⟩ a1).setCell ⟨b, 2, none⟩ a2).setCell ⟨b, 3, none⟩ a3).setCell ⟨b, 4, none⟩ a4)).cell? ⟨pb, 0, none⟩ = some (.pointer (some ⟨rb, 0, none⟩)) ∧ Mv (w.alloc zIn).drew (((((V.setCell ⟨b, 0, none⟩ a0).setCell ⟨b, 1, none⟩ a1).setCell ⟨b, 2, none⟩ a2).setCell ⟨b, 3, none⟩ a3).setCell ⟨b, 4, none⟩ a4) rb)) := Lib.hid fun V b a0 a1 a2 a3 a4 hb h => ⟨HK.out _ (((((h.2.other hb).other hb).other hb).other hb).other hb), ((((h.2.other hb).other hb).other hb).other hb).other hb⟩
  have KZ : Hid (∀ V, Mv (w.alloc zIn).drew V rb → (w.alloc zIn).drew.heap.size ≤ V.heap.size) := Lib.hid fun V h => h.size
  have HSZ : Hid (w.heap.size + 1 = (w.alloc zIn).drew.heap.size) := Lib.hid (by simp)
  have HSZ2 : Hid (w.heap.size + 1 = (w.alloc zIn).heap.size) := Lib.hid (by simp)
  have HNE : Hid (w.heap.size + 1 ≠ rb) := Lib.hid (by omega)
  have HSL : Hid ((w.alloc zIn).drew.heap.size ≤ w.heap.size + 1) := Lib.hid (by simp)
  have hSt : (w.alloc zIn).drew.cell? ⟨pb, 0, none⟩ = some (.pointer (some ⟨rb, 0, none⟩)) ∧ Mv (w.alloc zIn).drew (w.alloc zIn).drew rb := ⟨c0, Mv.refl _ _⟩
  have HVD : Hid (∀ V, Mv (w.alloc zIn).drew V rb → Mv (w.alloc zIn).drew V rb) := Lib.hid fun V h => h
  have hw0 := h.bel.size
  have HZP : Hid (w.heap.size ≠ pb) := Lib.hid (by have := (Array.getElem?_eq_some_iff.1 hb.p).1; omega)
  have HZR : Hid (w.heap.size ≠ rb) := Lib.hid (by omega)
  have HZA : Hid (ab ≠ w.heap.size) := Lib.hid (by have := (Array.getElem?_eq_some_iff.1 hb.a).1; omega)
  have HW0 : Hid (w0.heap.size ≤ (w.alloc zIn).drew.heap.size) := Lib.hid (by have := h.bel.size; simp; omega)
  have hSt2 : Hid (((w.alloc zIn).alloc zIn).drew.cell? ⟨pb, 0, none⟩ = some (.pointer (some ⟨rb, 0, none⟩)) ∧ Mv (w.alloc zIn).drew ((w.alloc zIn).alloc zIn).drew rb) := Lib.hid (KA.out (w.alloc zIn).drew zIn hSt)
  have HRA2 : Hid (Rd w0 ((w.alloc zIn).alloc zIn).drew rb l) := Lib.hid (((h.alloc zIn).alloc zIn).drew)
  clear h hb h1 h2 h3 h4 h5
  go_enter Try.func76, Try.ntmps76
  go_upto_region 1 with fail
  go_cut [3] (fun s3 w' => ∃ n, s3 = .pointer (some ⟨n, 0, none⟩) ∧ Lf w0 (w.alloc zIn).drew w' rb n r4 #[.int .i64 op, .int .i64 a, .int .i64 b, .int .i64 c, .int .i64 0])
  case first =>
   go_region_held3 (fun w' => w'.cell? ⟨pb, 0, none⟩ = some (.pointer (some ⟨rb, 0, none⟩)) ∧ Mv (w.alloc zIn).drew w' rb)
     (first
       | (with_reducible exact hSt)
       | (with_reducible exact hSt2.out)
       | (with_reducible assumption)
       | (with_reducible exact KS.out _ _ _ _ _ _ _ (KZ.out _ ((hm1.trans hm2).trans hm3)) ‹_›)
       | (with_reducible exact KS.out _ _ _ _ _ _ _ (KZ.out _ (hm1.trans hm2)) ‹_›)
       | (with_reducible exact KS.out _ _ _ _ _ _ _ (KZ.out _ hm1) ‹_›)
       | (with_reducible exact KS.out _ _ _ _ _ _ _ HSL.out ‹_›)
       | (with_reducible exact KC.out _ _ ‹_› hm4)
       | (with_reducible exact KC.out _ _ ‹_› hm3)
       | (with_reducible exact KC.out _ _ ‹_› hm2)
       | (with_reducible exact KC.out _ _ ‹_› hm1)
       | (with_reducible exact KA.out _ _ ‹_›)
       | (with_reducible exact KA.out _ _ (KC.out _ _ (KC.out _ _ (KC.out _ _ (KC.out _ _ hSt hm1) hm2) hm3) hm4)))
     (first
       | (go_at_call 66; (with_reducible refine (onum_some (by first | with_reducible exact hr3 | with_reducible exact hr3.alloc _) N4.out).mono ?_); rintro e w4 ⟨rfl, hr4, hm4⟩; first | (with_reducible (have y0 := (bx5 (n := w3.heap.size) hm4 rfl (ne_sz hr3)).1.1; have y1 := (bx5 (n := w3.heap.size) hm4 rfl (ne_sz hr3)).1.2.1; have y2 := (bx5 (n := w3.heap.size) hm4 rfl (ne_sz hr3)).1.2.2.1; have y3 := (bx5 (n := w3.heap.size) hm4 rfl (ne_sz hr3)).1.2.2.2.1; have y4 := (bx5 (n := w3.heap.size) hm4 rfl (ne_sz hr3)).1.2.2.2.2; have y5 := (bx5 (n := w3.heap.size) hm4 rfl (ne_sz hr3)).2.1; have y6 := (bx5 (n := w3.heap.size) hm4 rfl (ne_sz hr3)).2.2.1; have y7 := (bx5 (n := w3.heap.size) hm4 rfl (ne_sz hr3)).2.2.2.1; have y8 := (bx5 (n := w3.heap.size) hm4 rfl (ne_sz hr3)).2.2.2.2.1; have y9 := (bx5 (n := w3.heap.size) hm4 rfl (ne_sz hr3)).2.2.2.2.2)) | (with_reducible (have y0 := (bx5 (n := w2.heap.size) (hm3.trans hm4) rfl (ne_sz hr2)).1.1; have y1 := (bx5 (n := w2.heap.size) (hm3.trans hm4) rfl (ne_sz hr2)).1.2.1; have y2 := (bx5 (n := w2.heap.size) (hm3.trans hm4) rfl (ne_sz hr2)).1.2.2.1; have y3 := (bx5 (n := w2.heap.size) (hm3.trans hm4) rfl (ne_sz hr2)).1.2.2.2.1; have y4 := (bx5 (n := w2.heap.size) (hm3.trans hm4) rfl (ne_sz hr2)).1.2.2.2.2; have y5 := (bx5 (n := w2.heap.size) (hm3.trans hm4) rfl (ne_sz hr2)).2.1; have y6 := (bx5 (n := w2.heap.size) (hm3.trans hm4) rfl (ne_sz hr2)).2.2.1; have y7 := (bx5 (n := w2.heap.size) (hm3.trans hm4) rfl (ne_sz hr2)).2.2.2.1; have y8 := (bx5 (n := w2.heap.size) (hm3.trans hm4) rfl (ne_sz hr2)).2.2.2.2.1; have y9 := (bx5 (n := w2.heap.size) (hm3.trans hm4) rfl (ne_sz hr2)).2.2.2.2.2)) | (with_reducible (have y0 := (bx5 (n := w1.heap.size) ((hm2.trans hm3).trans hm4) rfl (ne_sz hr1)).1.1; have y1 := (bx5 (n := w1.heap.size) ((hm2.trans hm3).trans hm4) rfl (ne_sz hr1)).1.2.1; have y2 := (bx5 (n := w1.heap.size) ((hm2.trans hm3).trans hm4) rfl (ne_sz hr1)).1.2.2.1; have y3 := (bx5 (n := w1.heap.size) ((hm2.trans hm3).trans hm4) rfl (ne_sz hr1)).1.2.2.2.1; have y4 := (bx5 (n := w1.heap.size) ((hm2.trans hm3).trans hm4) rfl (ne_sz hr1)).1.2.2.2.2; have y5 := (bx5 (n := w1.heap.size) ((hm2.trans hm3).trans hm4) rfl (ne_sz hr1)).2.1; have y6 := (bx5 (n := w1.heap.size) ((hm2.trans hm3).trans hm4) rfl (ne_sz hr1)).2.2.1; have y7 := (bx5 (n := w1.heap.size) ((hm2.trans hm3).trans hm4) rfl (ne_sz hr1)).2.2.2.1; have y8 := (bx5 (n := w1.heap.size) ((hm2.trans hm3).trans hm4) rfl (ne_sz hr1)).2.2.2.2.1; have y9 := (bx5 (n := w1.heap.size) ((hm2.trans hm3).trans hm4) rfl (ne_sz hr1)).2.2.2.2.2)) | (with_reducible (have y0 := (bx5 (n := w.heap.size + 1) (((hm1.drew.trans hm2).trans hm3).trans hm4) HSZ2.out HNE.out).1.1; have y1 := (bx5 (n := w.heap.size + 1) (((hm1.drew.trans hm2).trans hm3).trans hm4) HSZ2.out HNE.out).1.2.1; have y2 := (bx5 (n := w.heap.size + 1) (((hm1.drew.trans hm2).trans hm3).trans hm4) HSZ2.out HNE.out).1.2.2.1; have y3 := (bx5 (n := w.heap.size + 1) (((hm1.drew.trans hm2).trans hm3).trans hm4) HSZ2.out HNE.out).1.2.2.2.1; have y4 := (bx5 (n := w.heap.size + 1) (((hm1.drew.trans hm2).trans hm3).trans hm4) HSZ2.out HNE.out).1.2.2.2.2; have y5 := (bx5 (n := w.heap.size + 1) (((hm1.drew.trans hm2).trans hm3).trans hm4) HSZ2.out HNE.out).2.1; have y6 := (bx5 (n := w.heap.size + 1) (((hm1.drew.trans hm2).trans hm3).trans hm4) HSZ2.out HNE.out).2.2.1; have y7 := (bx5 (n := w.heap.size + 1) (((hm1.drew.trans hm2).trans hm3).trans hm4) HSZ2.out HNE.out).2.2.2.1; have y8 := (bx5 (n := w.heap.size + 1) (((hm1.drew.trans hm2).trans hm3).trans hm4) HSZ2.out HNE.out).2.2.2.2.1; have y9 := (bx5 (n := w.heap.size + 1) (((hm1.drew.trans hm2).trans hm3).trans hm4) HSZ2.out HNE.out).2.2.2.2.2)) | skip)
       | (go_at_call 66; (with_reducible refine (onum_some (by first | with_reducible exact hr2 | with_reducible exact hr2.alloc _) N3.out).mono ?_); rintro e w3 ⟨rfl, hr3, hm3⟩)
       | (go_at_call 66; (with_reducible refine (onum_some (by first | with_reducible exact hr1 | with_reducible exact hr1.alloc _) N2.out).mono ?_); rintro e w2 ⟨rfl, hr2, hm2⟩)
       | (go_at_call 66; (with_reducible refine (onum_some (by first | with_reducible exact HRA.out | with_reducible exact HRA2.out) N1.out).mono ?_); rintro e w1 ⟨rfl, hr1, hm1⟩))
   all_goals
     go_wp2_with fail
     go_meet
     case rel =>
       first
         | (with_reducible refine ⟨w4.heap.size, rfl, ?_⟩; exact lf_alloc hr4 (((hm1.trans hm2).trans hm3).trans hm4))
         | (with_reducible refine ⟨w3.heap.size, rfl, ?_⟩; exact lf_set (V := w3) hr4 ((((hm1.trans hm2).trans hm3).alloc zIn).trans hm4) hm4 rfl (KZ.out _ ((hm1.trans hm2).trans hm3)) (ne_sz hr3) HW0.out)
         | (with_reducible refine ⟨w2.heap.size, rfl, ?_⟩; exact lf_set (V := w2) hr4 ((((hm1.trans hm2).alloc zIn).trans hm3).trans hm4) (hm3.trans hm4) rfl (KZ.out _ (hm1.trans hm2)) (ne_sz hr2) HW0.out)
         | (with_reducible refine ⟨w1.heap.size, rfl, ?_⟩; exact lf_set (V := w1) hr4 (((hm1.alloc zIn).trans hm2).trans (hm3.trans hm4)) ((hm2.trans hm3).trans hm4) rfl (KZ.out _ hm1) (ne_sz hr1) HW0.out)
         | (with_reducible refine ⟨w.heap.size + 1, rfl, ?_⟩; exact lf_set (V := w.alloc zIn) hr4 ((((hSt2.out.2.trans hm1).trans hm2).trans hm3).trans hm4) (((hm1.drew.trans hm2).trans hm3).trans hm4) HSZ2.out HSL.out HNE.out HW0.out)
  case rest =>
    obtain ⟨n, rfl, hL⟩ := hcut
    have HL := Lib.hid hL
    have HB1 : Hid (Bo wc pb ab rb at0) := Lib.hid (HBA.out.mv hL.mv)
    have HR5 := Lib.hid hL.rd.drew
    obtain ⟨i1, i2, i3⟩ : Hid (n ≠ pb) ∧ Hid (n ≠ ab) ∧ Hid (w.heap.size < n) := by
      have h1 := (Array.getElem?_eq_some_iff.1 HBA.out.p).1
      have h2 := (Array.getElem?_eq_some_iff.1 HBA.out.a).1
      have h3 := hL.ge
      refine ⟨Lib.hid ?_, Lib.hid ?_, Lib.hid ?_⟩
      · simp at h1 h3; omega
      · simp at h2 h3; omega
      · simp at h3; omega
    have p0 := HB1.out.pc
    obtain ⟨a0, az⟩ := HB1.out.ac
    have HBZ : Hid (w.heap.size ≠ rb) := HZR
    have HAZ : Hid (ab ≠ w.heap.size) := HZA
    have hne : ab ≠ pb := fun e => HB1.out.n3 e.symm
    have KC2 : Hid (∀ V, Mv wc.drew V rb → V.cell? ⟨pb, 0, none⟩ = some (.pointer (some ⟨rb, 0, none⟩)) ∧ V.cell? ⟨ab, 0, none⟩ = some (.int .i64 at0) ∧ V.frozen? ⟨ab, 0, none⟩ = false) := Lib.hid fun V hV => by
      have := HB1.out.mv hV.drew
      exact ⟨this.pc, this.ac⟩
    have hnp := HB1.out.n1
    clear hL
    clear c0 hSt
    go_wp2_with fail
    go_region_law (first
      | (go_simp; go_at_call 66; (with_reducible refine (onum_some HR5.out N5.out).mono ?_); rintro e w5 ⟨rfl, hr5, hm5⟩; have k1 := (KC2.out _ hm5).1; have k2 := (KC2.out _ hm5).2.1; have k3 := (KC2.out _ hm5).2.2))
    all_goals
      have hbn : w5.heap[n]? = some (.cells #[.int .i64 op, .int .i64 a, .int .i64 b, .int .i64 c, .int .i64 0] 57 (0, 0)) := (hm5.keep (Array.getElem?_eq_some_iff.1 HL.out.blk).1 HL.out.ne).trans HL.out.blk
      have hb0 : w5.heap[w.heap.size]? = some zIn := by
        have e1 : wc.heap[w.heap.size]? = some zIn := (HL.out.mv.keep (b := w.heap.size) (by simp) HBZ.out).trans (heap_alloc_new w zIn)
        exact (hm5.keep (b := w.heap.size) (by have := (Array.getElem?_eq_some_iff.1 e1).1; exact this) HBZ.out).trans e1
      have hB5 := HB1.out.mv hm5.drew
      have g0 : w5.cell? ⟨n, 0, none⟩ = some (.int .i64 op) := by simp [World.cell?, hbn]
      have g1 : w5.cell? ⟨n, 1, none⟩ = some (.int .i64 a) := by simp [World.cell?, hbn]
      have g2 : w5.cell? ⟨n, 2, none⟩ = some (.int .i64 b) := by simp [World.cell?, hbn]
      have g3 : w5.cell? ⟨n, 3, none⟩ = some (.int .i64 c) := by simp [World.cell?, hbn]
      have g4 : w5.cell? ⟨n, 4, none⟩ = some (.int .i64 0) := by simp [World.cell?, hbn]
      have gz : w5.frozen? ⟨n, 4, none⟩ = false := by simp [World.frozen?, hbn]
      have e0 : w5.cell? ⟨w.heap.size, 0, none⟩ = some (.int .i64 0) := by simp [World.cell?, hb0]
      have e1 : w5.cell? ⟨w.heap.size, 1, none⟩ = some (.int .i64 0) := by simp [World.cell?, hb0]
      have e2 : w5.cell? ⟨w.heap.size, 2, none⟩ = some (.int .i64 0) := by simp [World.cell?, hb0]
      have e3 : w5.cell? ⟨w.heap.size, 3, none⟩ = some (.int .i64 0) := by simp [World.cell?, hb0]
      have e4 : w5.cell? ⟨w.heap.size, 4, none⟩ = some (.int .i64 0) := by simp [World.cell?, hb0]
      have ez0 : w5.frozen? ⟨w.heap.size, 0, none⟩ = false := by simp [World.frozen?, hb0]
      have ez1 : w5.frozen? ⟨w.heap.size, 1, none⟩ = false := by simp [World.frozen?, hb0]
      have ez2 : w5.frozen? ⟨w.heap.size, 2, none⟩ = false := by simp [World.frozen?, hb0]
      have ez3 : w5.frozen? ⟨w.heap.size, 3, none⟩ = false := by simp [World.frozen?, hb0]
      have ez4 : w5.frozen? ⟨w.heap.size, 4, none⟩ = false := by simp [World.frozen?, hb0]
      have d1 : n ≠ ab := i2.out
      have d2 : ab ≠ n := fun e => i2.out e.symm
      have d3 : n ≠ w.heap.size := by have := i3.out; omega
      have d4 : w.heap.size ≠ n := by have := i3.out; omega
      have d5 : ab ≠ w.heap.size := HAZ.out
      have d6 : w.heap.size ≠ ab := fun e => HAZ.out e.symm
      obtain ⟨tt, htt⟩ : ∃ tt, wrap64 (at0 + t) = tt := ⟨_, rfl⟩
      have hd2 : IntKind.i64.wrap (at0 + t) = tt := (IntWalk.i64_left _).trans htt
      have HR6 := Lib.hid hr5
      have HM6 : Hid (Mv (w.alloc zIn).drew w5 rb) := Lib.hid (HL.out.mv.trans hm5.drew)
      have HBN := Lib.hid hbn
      have HB0' := Lib.hid hb0
      have HB5' := Lib.hid hB5
      clear hbn hb0 hB5 hr5 hm5
      go_wp2
      refine bodyPost_ret (results_cell_row rfl _ _ w.heap.size 57 #[.int .i64 op, .int .i64 a, .int .i64 b, .int .i64 c, .int .i64 tt] (0, 0) _ rfl (by simp [World.setCell, Array.getElem?_modify, HB0'.out, d1, d2, d3, d4, d5, d6, hd2, htt]) Try.underlying57 rfl infoIn5) rfl ?_
      have hn2 : w0.heap.size ≤ n := by have := i3.out; omega
      have hMw : Mw w w5 rb ab := Mw.of ((Mv.drew' ((Mv.refl w rb).alloc zIn)).trans HM6.out)
      refine ⟨by rw [htt], ?_, ?_, ?_⟩
      · exact ((((((HR6.out.other HB5'.out.n2 hab).other HL.out.ne hn2).other HBZ.out hw0).other HBZ.out hw0).other HBZ.out hw0).other HBZ.out hw0).other HBZ.out hw0
      · refine (((((Bo.other (n := n) (HB5'.out.set (x := wrap64 (at0 + t)) ?_) i1.out i2.out).other HZP.out d6).other HZP.out d6).other HZP.out d6).other HZP.out d6).other HZP.out d6
        first | rw [htt] | rfl
      · exact ((((((hMw.set).other (Nat.le_of_lt i3.out)).other (Nat.le_refl _)).other (Nat.le_refl _)).other (Nat.le_refl _)).other (Nat.le_refl _)).other (Nat.le_refl _)
end Go.Proofs.Ytlkaeonedijfpaa

namespace Go.Proofs.Ytlkaeonedijfpaa
open Go.RowKit C
theorem onum_noneF {w0 w : World} {rb : Nat} {l : Bs} (h : Rd w0 w rb l) (hd : numD l = none) :
    Calls Try.prog 66 #[.pointer (some ⟨rb, 0, none⟩)] w fun e w' => (e = PE ∧ Mv w w' rb) ∨ (e = .returned (.int .i64 0) ∧ w' = w ∧ Hid False) := (onum_none h hd).mono fun e w' h => .inl h
theorem onum_fake {w : World} {rb : Nat} (h : False) : Calls Try.prog 66 #[.pointer (some ⟨rb, 0, none⟩)] w fun e w' => e = .returned (.int .i64 0) ∧ w' = w := h.elim
theorem pe_mw {w V W : World} {rb ab : Nat} (h : Mv w V rb) (h2 : Mv V W rb) : Mw w W rb ab := Mw.of (h.trans h2)
set_option maxRecDepth 100000 in
set_option maxHeartbeats 8000000 in
theorem oin_none1 (w0 w : World) (rb pb ab : Nat) (at0 : Int) (l : Bs) (h : Rd w0 w rb l) (hb : Bo w pb ab rb at0)  (h1 : numD l = none) :
    Calls Try.prog 76 #[.pointer (some ⟨pb, 0, none⟩), .pointer (some ⟨ab, 0, none⟩)] w fun e w' => e = PE ∧ Mw w w' rb ab := by
  have HRA := Lib.hid ((h.alloc zIn).drew)
  have HBA : Hid (Bo (w.alloc zIn).drew pb ab rb at0) := Lib.hid (hb.mv (Mv.drew' ((Mv.refl w rb).alloc zIn)))
  have HM0 : Hid (Mv w (w.alloc zIn).drew rb) := Lib.hid (Mv.drew' ((Mv.refl w rb).alloc zIn))
  have c0 := HBA.out.pc
  have HK : Hid (∀ V, Mv (w.alloc zIn).drew V rb → V.cell? ⟨pb, 0, none⟩ = some (.pointer (some ⟨rb, 0, none⟩))) := Lib.hid fun V hV => (HBA.out.mv hV).pc
  have N1 := Lib.hid h1
  have KC : Hid (∀ V W, (V.cell? ⟨pb, 0, none⟩ = some (.pointer (some ⟨rb, 0, none⟩)) ∧ Mv (w.alloc zIn).drew V rb) → Mv V W rb → (W.cell? ⟨pb, 0, none⟩ = some (.pointer (some ⟨rb, 0, none⟩)) ∧ Mv (w.alloc zIn).drew W rb)) := Lib.hid fun V W h hm => ⟨HK.out _ (h.2.trans hm), h.2.trans hm⟩
  have KA : Hid (∀ V o, (V.cell? ⟨pb, 0, none⟩ = some (.pointer (some ⟨rb, 0, none⟩)) ∧ Mv (w.alloc zIn).drew V rb) → ((V.alloc o).cell? ⟨pb, 0, none⟩ = some (.pointer (some ⟨rb, 0, none⟩)) ∧ Mv (w.alloc zIn).drew (V.alloc o) rb)) := Lib.hid fun V o h => ⟨HK.out _ (h.2.alloc o), h.2.alloc o⟩
  have hSt : (w.alloc zIn).drew.cell? ⟨pb, 0, none⟩ = some (.pointer (some ⟨rb, 0, none⟩)) ∧ Mv (w.alloc zIn).drew (w.alloc zIn).drew rb := ⟨c0, Mv.refl _ _⟩
  have hSt2 : Hid (((w.alloc zIn).alloc zIn).drew.cell? ⟨pb, 0, none⟩ = some (.pointer (some ⟨rb, 0, none⟩)) ∧ Mv (w.alloc zIn).drew ((w.alloc zIn).alloc zIn).drew rb) := Lib.hid (KA.out (w.alloc zIn).drew zIn hSt)
  have HRA2 : Hid (Rd w0 ((w.alloc zIn).alloc zIn).drew rb l) := Lib.hid (((h.alloc zIn).alloc zIn).drew)
  have HPF : Hid (∀ V W, Mv V W rb → (V.cell? ⟨pb, 0, none⟩ = some (.pointer (some ⟨rb, 0, none⟩)) ∧ Mv (w.alloc zIn).drew V rb) → Mw w W rb ab) := Lib.hid fun V W h2 h1 => Mw.of ((HM0.out.trans h1.2).trans h2)
  have HSZ2 : Hid (w.heap.size + 1 = (w.alloc zIn).heap.size) := Lib.hid (by simp)
  have HNE : Hid (w.heap.size + 1 ≠ rb) := Lib.hid (by have := h.lt; omega)
  clear h hb h1
  go_enter Try.func76, Try.ntmps76
  go_wp2_with fail
  go_region_held2 (fun w' => w'.cell? ⟨pb, 0, none⟩ = some (.pointer (some ⟨rb, 0, none⟩)) ∧ Mv (w.alloc zIn).drew w' rb)
    (first
      | (with_reducible exact hfalse.out.elim)
      | (with_reducible exact hSt)
      | (with_reducible exact hSt2.out)
      | (with_reducible assumption)
      | (with_reducible exact KA.out _ _ ‹_›))
    (first
      | (go_at_call 66; (with_reducible refine (onum_fake hfalse.out).mono ?_); rintro e w9 ⟨rfl, rfl⟩)
      | (go_at_call 66; (with_reducible refine (onum_noneF (by first | with_reducible exact HRA.out | with_reducible exact HRA2.out) N1.out).mono ?_); rintro e w1 (⟨rfl, hm1⟩ | ⟨rfl, rfl, hfalse⟩); (first | exact ⟨rfl, rfl, HPF.out _ _ hm1 (by first | with_reducible assumption | with_reducible exact hSt | with_reducible exact hSt2.out)⟩ | (trace_state; fail))))
  all_goals exact hfalse.out.elim
set_option maxRecDepth 100000 in
set_option maxHeartbeats 8000000 in
theorem oin_none2 (w0 w : World) (rb pb ab : Nat) (at0 : Int) (l r1 : Bs) (op : Int) (h : Rd w0 w rb l) (hb : Bo w pb ab rb at0) (h1 : numD l = some (op, r1)) (h2 : numD r1 = none) :
    Calls Try.prog 76 #[.pointer (some ⟨pb, 0, none⟩), .pointer (some ⟨ab, 0, none⟩)] w fun e w' => e = PE ∧ Mw w w' rb ab := by
  have HRA := Lib.hid ((h.alloc zIn).drew)
  have HBA : Hid (Bo (w.alloc zIn).drew pb ab rb at0) := Lib.hid (hb.mv (Mv.drew' ((Mv.refl w rb).alloc zIn)))
  have HM0 : Hid (Mv w (w.alloc zIn).drew rb) := Lib.hid (Mv.drew' ((Mv.refl w rb).alloc zIn))
  have c0 := HBA.out.pc
  have HK : Hid (∀ V, Mv (w.alloc zIn).drew V rb → V.cell? ⟨pb, 0, none⟩ = some (.pointer (some ⟨rb, 0, none⟩))) := Lib.hid fun V hV => (HBA.out.mv hV).pc
  have N1 := Lib.hid h1
  have N2 := Lib.hid h2
  have KC : Hid (∀ V W, (V.cell? ⟨pb, 0, none⟩ = some (.pointer (some ⟨rb, 0, none⟩)) ∧ Mv (w.alloc zIn).drew V rb) → Mv V W rb → (W.cell? ⟨pb, 0, none⟩ = some (.pointer (some ⟨rb, 0, none⟩)) ∧ Mv (w.alloc zIn).drew W rb)) := Lib.hid fun V W h hm => ⟨HK.out _ (h.2.trans hm), h.2.trans hm⟩
  have KA : Hid (∀ V o, (V.cell? ⟨pb, 0, none⟩ = some (.pointer (some ⟨rb, 0, none⟩)) ∧ Mv (w.alloc zIn).drew V rb) → ((V.alloc o).cell? ⟨pb, 0, none⟩ = some (.pointer (some ⟨rb, 0, none⟩)) ∧ Mv (w.alloc zIn).drew (V.alloc o) rb)) := Lib.hid fun V o h => ⟨HK.out _ (h.2.alloc o), h.2.alloc o⟩
  have hSt : (w.alloc zIn).drew.cell? ⟨pb, 0, none⟩ = some (.pointer (some ⟨rb, 0, none⟩)) ∧ Mv (w.alloc zIn).drew (w.alloc zIn).drew rb := ⟨c0, Mv.refl _ _⟩
  have hSt2 : Hid (((w.alloc zIn).alloc zIn).drew.cell? ⟨pb, 0, none⟩ = some (.pointer (some ⟨rb, 0, none⟩)) ∧ Mv (w.alloc zIn).drew ((w.alloc zIn).alloc zIn).drew rb) := Lib.hid (KA.out (w.alloc zIn).drew zIn hSt)
  have HRA2 : Hid (Rd w0 ((w.alloc zIn).alloc zIn).drew rb l) := Lib.hid (((h.alloc zIn).alloc zIn).drew)
  have HPF : Hid (∀ V W, Mv V W rb → (V.cell? ⟨pb, 0, none⟩ = some (.pointer (some ⟨rb, 0, none⟩)) ∧ Mv (w.alloc zIn).drew V rb) → Mw w W rb ab) := Lib.hid fun V W h2 h1 => Mw.of ((HM0.out.trans h1.2).trans h2)
  have HSZ2 : Hid (w.heap.size + 1 = (w.alloc zIn).heap.size) := Lib.hid (by simp)
  have HNE : Hid (w.heap.size + 1 ≠ rb) := Lib.hid (by have := h.lt; omega)
  clear h hb h1 h2
  go_enter Try.func76, Try.ntmps76
  go_wp2_with fail
  go_region_held2 (fun w' => w'.cell? ⟨pb, 0, none⟩ = some (.pointer (some ⟨rb, 0, none⟩)) ∧ Mv (w.alloc zIn).drew w' rb)
    (first
      | (with_reducible exact hfalse.out.elim)
      | (with_reducible exact hSt)
      | (with_reducible exact hSt2.out)
      | (with_reducible assumption)
      | (with_reducible exact KC.out _ _ ‹_› hm1)
      | (with_reducible exact KA.out _ _ ‹_›))
    (first
      | (go_at_call 66; (with_reducible refine (onum_fake hfalse.out).mono ?_); rintro e w9 ⟨rfl, rfl⟩)
      | (go_at_call 66; (with_reducible refine (onum_noneF (by first | with_reducible exact hr1 | with_reducible exact hr1.alloc _) N2.out).mono ?_); rintro e w2 (⟨rfl, hm2⟩ | ⟨rfl, rfl, hfalse⟩); (first | exact ⟨rfl, rfl, HPF.out _ _ hm2 (by first | with_reducible assumption | with_reducible exact hSt | with_reducible exact hSt2.out)⟩ | (trace_state; fail)))
      | (go_at_call 66; (with_reducible refine (onum_some (by first | with_reducible exact HRA.out | with_reducible exact HRA2.out) N1.out).mono ?_); rintro e w1 ⟨rfl, hr1, hm1⟩; first | (with_reducible (have y0 := (bx5 (n := w.heap.size + 1) hm1.drew HSZ2.out HNE.out).1.1; have y1 := (bx5 (n := w.heap.size + 1) hm1.drew HSZ2.out HNE.out).1.2.1; have y2 := (bx5 (n := w.heap.size + 1) hm1.drew HSZ2.out HNE.out).1.2.2.1; have y3 := (bx5 (n := w.heap.size + 1) hm1.drew HSZ2.out HNE.out).1.2.2.2.1; have y4 := (bx5 (n := w.heap.size + 1) hm1.drew HSZ2.out HNE.out).1.2.2.2.2; have y5 := (bx5 (n := w.heap.size + 1) hm1.drew HSZ2.out HNE.out).2.1; have y6 := (bx5 (n := w.heap.size + 1) hm1.drew HSZ2.out HNE.out).2.2.1; have y7 := (bx5 (n := w.heap.size + 1) hm1.drew HSZ2.out HNE.out).2.2.2.1; have y8 := (bx5 (n := w.heap.size + 1) hm1.drew HSZ2.out HNE.out).2.2.2.2.1; have y9 := (bx5 (n := w.heap.size + 1) hm1.drew HSZ2.out HNE.out).2.2.2.2.2)) | skip))
  all_goals exact hfalse.out.elim
set_option maxRecDepth 100000 in
set_option maxHeartbeats 8000000 in
theorem oin_none3 (w0 w : World) (rb pb ab : Nat) (at0 : Int) (l r1 r2 : Bs) (op a : Int) (h : Rd w0 w rb l) (hb : Bo w pb ab rb at0) (h1 : numD l = some (op, r1)) (h2 : numD r1 = some (a, r2)) (h3 : numD r2 = none) :
    Calls Try.prog 76 #[.pointer (some ⟨pb, 0, none⟩), .pointer (some ⟨ab, 0, none⟩)] w fun e w' => e = PE ∧ Mw w w' rb ab := by
  have HRA := Lib.hid ((h.alloc zIn).drew)
  have HBA : Hid (Bo (w.alloc zIn).drew pb ab rb at0) := Lib.hid (hb.mv (Mv.drew' ((Mv.refl w rb).alloc zIn)))
  have HM0 : Hid (Mv w (w.alloc zIn).drew rb) := Lib.hid (Mv.drew' ((Mv.refl w rb).alloc zIn))
  have c0 := HBA.out.pc
  have HK : Hid (∀ V, Mv (w.alloc zIn).drew V rb → V.cell? ⟨pb, 0, none⟩ = some (.pointer (some ⟨rb, 0, none⟩))) := Lib.hid fun V hV => (HBA.out.mv hV).pc
  have N1 := Lib.hid h1
  have N2 := Lib.hid h2
  have N3 := Lib.hid h3
  have KC : Hid (∀ V W, (V.cell? ⟨pb, 0, none⟩ = some (.pointer (some ⟨rb, 0, none⟩)) ∧ Mv (w.alloc zIn).drew V rb) → Mv V W rb → (W.cell? ⟨pb, 0, none⟩ = some (.pointer (some ⟨rb, 0, none⟩)) ∧ Mv (w.alloc zIn).drew W rb)) := Lib.hid fun V W h hm => ⟨HK.out _ (h.2.trans hm), h.2.trans hm⟩
  have KA : Hid (∀ V o, (V.cell? ⟨pb, 0, none⟩ = some (.pointer (some ⟨rb, 0, none⟩)) ∧ Mv (w.alloc zIn).drew V rb) → ((V.alloc o).cell? ⟨pb, 0, none⟩ = some (.pointer (some ⟨rb, 0, none⟩)) ∧ Mv (w.alloc zIn).drew (V.alloc o) rb)) := Lib.hid fun V o h => ⟨HK.out _ (h.2.alloc o), h.2.alloc o⟩
  have hSt : (w.alloc zIn).drew.cell? ⟨pb, 0, none⟩ = some (.pointer (some ⟨rb, 0, none⟩)) ∧ Mv (w.alloc zIn).drew (w.alloc zIn).drew rb := ⟨c0, Mv.refl _ _⟩
  have hSt2 : Hid (((w.alloc zIn).alloc zIn).drew.cell? ⟨pb, 0, none⟩ = some (.pointer (some ⟨rb, 0, none⟩)) ∧ Mv (w.alloc zIn).drew ((w.alloc zIn).alloc zIn).drew rb) := Lib.hid (KA.out (w.alloc zIn).drew zIn hSt)
  have HRA2 : Hid (Rd w0 ((w.alloc zIn).alloc zIn).drew rb l) := Lib.hid (((h.alloc zIn).alloc zIn).drew)
  have HPF : Hid (∀ V W, Mv V W rb → (V.cell? ⟨pb, 0, none⟩ = some (.pointer (some ⟨rb, 0, none⟩)) ∧ Mv (w.alloc zIn).drew V rb) → Mw w W rb ab) := Lib.hid fun V W h2 h1 => Mw.of ((HM0.out.trans h1.2).trans h2)
  have HSZ2 : Hid (w.heap.size + 1 = (w.alloc zIn).heap.size) := Lib.hid (by simp)
  have HNE : Hid (w.heap.size + 1 ≠ rb) := Lib.hid (by have := h.lt; omega)
  clear h hb h1 h2 h3
  go_enter Try.func76, Try.ntmps76
  go_wp2_with fail
  go_region_held2 (fun w' => w'.cell? ⟨pb, 0, none⟩ = some (.pointer (some ⟨rb, 0, none⟩)) ∧ Mv (w.alloc zIn).drew w' rb)
    (first
      | (with_reducible exact hfalse.out.elim)
      | (with_reducible exact hSt)
      | (with_reducible exact hSt2.out)
      | (with_reducible assumption)
      | (with_reducible exact KC.out _ _ ‹_› hm2)
      | (with_reducible exact KC.out _ _ ‹_› hm1)
      | (with_reducible exact KA.out _ _ ‹_›))
    (first
      | (go_at_call 66; (with_reducible refine (onum_fake hfalse.out).mono ?_); rintro e w9 ⟨rfl, rfl⟩)
      | (go_at_call 66; (with_reducible refine (onum_noneF (by first | with_reducible exact hr2 | with_reducible exact hr2.alloc _) N3.out).mono ?_); rintro e w3 (⟨rfl, hm3⟩ | ⟨rfl, rfl, hfalse⟩); (first | exact ⟨rfl, rfl, HPF.out _ _ hm3 (by first | with_reducible assumption | with_reducible exact hSt | with_reducible exact hSt2.out)⟩ | (trace_state; fail)))
      | (go_at_call 66; (with_reducible refine (onum_some (by first | with_reducible exact hr1 | with_reducible exact hr1.alloc _) N2.out).mono ?_); rintro e w2 ⟨rfl, hr2, hm2⟩; first | (with_reducible (have y0 := (bx5 (n := w1.heap.size) hm2 rfl (ne_sz hr1)).1.1; have y1 := (bx5 (n := w1.heap.size) hm2 rfl (ne_sz hr1)).1.2.1; have y2 := (bx5 (n := w1.heap.size) hm2 rfl (ne_sz hr1)).1.2.2.1; have y3 := (bx5 (n := w1.heap.size) hm2 rfl (ne_sz hr1)).1.2.2.2.1; have y4 := (bx5 (n := w1.heap.size) hm2 rfl (ne_sz hr1)).1.2.2.2.2; have y5 := (bx5 (n := w1.heap.size) hm2 rfl (ne_sz hr1)).2.1; have y6 := (bx5 (n := w1.heap.size) hm2 rfl (ne_sz hr1)).2.2.1; have y7 := (bx5 (n := w1.heap.size) hm2 rfl (ne_sz hr1)).2.2.2.1; have y8 := (bx5 (n := w1.heap.size) hm2 rfl (ne_sz hr1)).2.2.2.2.1; have y9 := (bx5 (n := w1.heap.size) hm2 rfl (ne_sz hr1)).2.2.2.2.2)) | (with_reducible (have y0 := (bx5 (n := w.heap.size + 1) (hm1.drew.trans hm2) HSZ2.out HNE.out).1.1; have y1 := (bx5 (n := w.heap.size + 1) (hm1.drew.trans hm2) HSZ2.out HNE.out).1.2.1; have y2 := (bx5 (n := w.heap.size + 1) (hm1.drew.trans hm2) HSZ2.out HNE.out).1.2.2.1; have y3 := (bx5 (n := w.heap.size + 1) (hm1.drew.trans hm2) HSZ2.out HNE.out).1.2.2.2.1; have y4 := (bx5 (n := w.heap.size + 1) (hm1.drew.trans hm2) HSZ2.out HNE.out).1.2.2.2.2; have y5 := (bx5 (n := w.heap.size + 1) (hm1.drew.trans hm2) HSZ2.out HNE.out).2.1; have y6 := (bx5 (n := w.heap.size + 1) (hm1.drew.trans hm2) HSZ2.out HNE.out).2.2.1; have y7 := (bx5 (n := w.heap.size + 1) (hm1.drew.trans hm2) HSZ2.out HNE.out).2.2.2.1; have y8 := (bx5 (n := w.heap.size + 1) (hm1.drew.trans hm2) HSZ2.out HNE.out).2.2.2.2.1; have y9 := (bx5 (n := w.heap.size + 1) (hm1.drew.trans hm2) HSZ2.out HNE.out).2.2.2.2.2)) | skip)
      | (go_at_call 66; (with_reducible refine (onum_some (by first | with_reducible exact HRA.out | with_reducible exact HRA2.out) N1.out).mono ?_); rintro e w1 ⟨rfl, hr1, hm1⟩))
  all_goals exact hfalse.out.elim
set_option maxRecDepth 100000 in
set_option maxHeartbeats 8000000 in
theorem oin_none4 (w0 w : World) (rb pb ab : Nat) (at0 : Int) (l r1 r2 r3 : Bs) (op a b : Int) (h : Rd w0 w rb l) (hb : Bo w pb ab rb at0) (h1 : numD l = some (op, r1)) (h2 : numD r1 = some (a, r2)) (h3 : numD r2 = some (b, r3)) (h4 : numD r3 = none) :
    Calls Try.prog 76 #[.pointer (some ⟨pb, 0, none⟩), .pointer (some ⟨ab, 0, none⟩)] w fun e w' => e = PE ∧ Mw w w' rb ab := by
  have HRA := Lib.hid ((h.alloc zIn).drew)
  have HBA : Hid (Bo (w.alloc zIn).drew pb ab rb at0) := Lib.hid (hb.mv (Mv.drew' ((Mv.refl w rb).alloc zIn)))
  have HM0 : Hid (Mv w (w.alloc zIn).drew rb) := Lib.hid (Mv.drew' ((Mv.refl w rb).alloc zIn))
  have c0 := HBA.out.pc
  have HK : Hid (∀ V, Mv (w.alloc zIn).drew V rb → V.cell? ⟨pb, 0, none⟩ = some (.pointer (some ⟨rb, 0, none⟩))) := Lib.hid fun V hV => (HBA.out.mv hV).pc
  have N1 := Lib.hid h1
  have N2 := Lib.hid h2
  have N3 := Lib.hid h3
  have N4 := Lib.hid h4
  have KC : Hid (∀ V W, (V.cell? ⟨pb, 0, none⟩ = some (.pointer (some ⟨rb, 0, none⟩)) ∧ Mv (w.alloc zIn).drew V rb) → Mv V W rb → (W.cell? ⟨pb, 0, none⟩ = some (.pointer (some ⟨rb, 0, none⟩)) ∧ Mv (w.alloc zIn).drew W rb)) := Lib.hid fun V W h hm => ⟨HK.out _ (h.2.trans hm), h.2.trans hm⟩
  have KA : Hid (∀ V o, (V.cell? ⟨pb, 0, none⟩ = some (.pointer (some ⟨rb, 0, none⟩)) ∧ Mv (w.alloc zIn).drew V rb) → ((V.alloc o).cell? ⟨pb, 0, none⟩ = some (.pointer (some ⟨rb, 0, none⟩)) ∧ Mv (w.alloc zIn).drew (V.alloc o) rb)) := Lib.hid fun V o h => ⟨HK.out _ (h.2.alloc o), h.2.alloc o⟩
  have hSt : (w.alloc zIn).drew.cell? ⟨pb, 0, none⟩ = some (.pointer (some ⟨rb, 0, none⟩)) ∧ Mv (w.alloc zIn).drew (w.alloc zIn).drew rb := ⟨c0, Mv.refl _ _⟩
  have hSt2 : Hid (((w.alloc zIn).alloc zIn).drew.cell? ⟨pb, 0, none⟩ = some (.pointer (some ⟨rb, 0, none⟩)) ∧ Mv (w.alloc zIn).drew ((w.alloc zIn).alloc zIn).drew rb) := Lib.hid (KA.out (w.alloc zIn).drew zIn hSt)
  have HRA2 : Hid (Rd w0 ((w.alloc zIn).alloc zIn).drew rb l) := Lib.hid (((h.alloc zIn).alloc zIn).drew)
  have HPF : Hid (∀ V W, Mv V W rb → (V.cell? ⟨pb, 0, none⟩ = some (.pointer (some ⟨rb, 0, none⟩)) ∧ Mv (w.alloc zIn).drew V rb) → Mw w W rb ab) := Lib.hid fun V W h2 h1 => Mw.of ((HM0.out.trans h1.2).trans h2)
  have HSZ2 : Hid (w.heap.size + 1 = (w.alloc zIn).heap.size) := Lib.hid (by simp)
  have HNE : Hid (w.heap.size + 1 ≠ rb) := Lib.hid (by have := h.lt; omega)
  clear h hb h1 h2 h3 h4
  go_enter Try.func76, Try.ntmps76
  go_wp2_with fail
  go_region_held2 (fun w' => w'.cell? ⟨pb, 0, none⟩ = some (.pointer (some ⟨rb, 0, none⟩)) ∧ Mv (w.alloc zIn).drew w' rb)
    (first
      | (with_reducible exact hfalse.out.elim)
      | (with_reducible exact hSt)
      | (with_reducible exact hSt2.out)
      | (with_reducible assumption)
      | (with_reducible exact KC.out _ _ ‹_› hm3)
      | (with_reducible exact KC.out _ _ ‹_› hm2)
      | (with_reducible exact KC.out _ _ ‹_› hm1)
      | (with_reducible exact KA.out _ _ ‹_›))
    (first
      | (go_at_call 66; (with_reducible refine (onum_fake hfalse.out).mono ?_); rintro e w9 ⟨rfl, rfl⟩)
      | (go_at_call 66; (with_reducible refine (onum_noneF (by first | with_reducible exact hr3 | with_reducible exact hr3.alloc _) N4.out).mono ?_); rintro e w4 (⟨rfl, hm4⟩ | ⟨rfl, rfl, hfalse⟩); (first | exact ⟨rfl, rfl, HPF.out _ _ hm4 (by first | with_reducible assumption | with_reducible exact hSt | with_reducible exact hSt2.out)⟩ | (trace_state; fail)))
      | (go_at_call 66; (with_reducible refine (onum_some (by first | with_reducible exact hr2 | with_reducible exact hr2.alloc _) N3.out).mono ?_); rintro e w3 ⟨rfl, hr3, hm3⟩; first | (with_reducible (have y0 := (bx5 (n := w2.heap.size) hm3 rfl (ne_sz hr2)).1.1; have y1 := (bx5 (n := w2.heap.size) hm3 rfl (ne_sz hr2)).1.2.1; have y2 := (bx5 (n := w2.heap.size) hm3 rfl (ne_sz hr2)).1.2.2.1; have y3 := (bx5 (n := w2.heap.size) hm3 rfl (ne_sz hr2)).1.2.2.2.1; have y4 := (bx5 (n := w2.heap.size) hm3 rfl (ne_sz hr2)).1.2.2.2.2; have y5 := (bx5 (n := w2.heap.size) hm3 rfl (ne_sz hr2)).2.1; have y6 := (bx5 (n := w2.heap.size) hm3 rfl (ne_sz hr2)).2.2.1; have y7 := (bx5 (n := w2.heap.size) hm3 rfl (ne_sz hr2)).2.2.2.1; have y8 := (bx5 (n := w2.heap.size) hm3 rfl (ne_sz hr2)).2.2.2.2.1; have y9 := (bx5 (n := w2.heap.size) hm3 rfl (ne_sz hr2)).2.2.2.2.2)) | (with_reducible (have y0 := (bx5 (n := w1.heap.size) (hm2.trans hm3) rfl (ne_sz hr1)).1.1; have y1 := (bx5 (n := w1.heap.size) (hm2.trans hm3) rfl (ne_sz hr1)).1.2.1; have y2 := (bx5 (n := w1.heap.size) (hm2.trans hm3) rfl (ne_sz hr1)).1.2.2.1; have y3 := (bx5 (n := w1.heap.size) (hm2.trans hm3) rfl (ne_sz hr1)).1.2.2.2.1; have y4 := (bx5 (n := w1.heap.size) (hm2.trans hm3) rfl (ne_sz hr1)).1.2.2.2.2; have y5 := (bx5 (n := w1.heap.size) (hm2.trans hm3) rfl (ne_sz hr1)).2.1; have y6 := (bx5 (n := w1.heap.size) (hm2.trans hm3) rfl (ne_sz hr1)).2.2.1; have y7 := (bx5 (n := w1.heap.size) (hm2.trans hm3) rfl (ne_sz hr1)).2.2.2.1; have y8 := (bx5 (n := w1.heap.size) (hm2.trans hm3) rfl (ne_sz hr1)).2.2.2.2.1; have y9 := (bx5 (n := w1.heap.size) (hm2.trans hm3) rfl (ne_sz hr1)).2.2.2.2.2)) | (with_reducible (have y0 := (bx5 (n := w.heap.size + 1) ((hm1.drew.trans hm2).trans hm3) HSZ2.out HNE.out).1.1; have y1 := (bx5 (n := w.heap.size + 1) ((hm1.drew.trans hm2).trans hm3) HSZ2.out HNE.out).1.2.1; have y2 := (bx5 (n := w.heap.size + 1) ((hm1.drew.trans hm2).trans hm3) HSZ2.out HNE.out).1.2.2.1; have y3 := (bx5 (n := w.heap.size + 1) ((hm1.drew.trans hm2).trans hm3) HSZ2.out HNE.out).1.2.2.2.1; have y4 := (bx5 (n := w.heap.size + 1) ((hm1.drew.trans hm2).trans hm3) HSZ2.out HNE.out).1.2.2.2.2; have y5 := (bx5 (n := w.heap.size + 1) ((hm1.drew.trans hm2).trans hm3) HSZ2.out HNE.out).2.1; have y6 := (bx5 (n := w.heap.size + 1) ((hm1.drew.trans hm2).trans hm3) HSZ2.out HNE.out).2.2.1; have y7 := (bx5 (n := w.heap.size + 1) ((hm1.drew.trans hm2).trans hm3) HSZ2.out HNE.out).2.2.2.1; have y8 := (bx5 (n := w.heap.size + 1) ((hm1.drew.trans hm2).trans hm3) HSZ2.out HNE.out).2.2.2.2.1; have y9 := (bx5 (n := w.heap.size + 1) ((hm1.drew.trans hm2).trans hm3) HSZ2.out HNE.out).2.2.2.2.2)) | skip)
      | (go_at_call 66; (with_reducible refine (onum_some (by first | with_reducible exact hr1 | with_reducible exact hr1.alloc _) N2.out).mono ?_); rintro e w2 ⟨rfl, hr2, hm2⟩)
      | (go_at_call 66; (with_reducible refine (onum_some (by first | with_reducible exact HRA.out | with_reducible exact HRA2.out) N1.out).mono ?_); rintro e w1 ⟨rfl, hr1, hm1⟩))
  all_goals exact hfalse.out.elim
end Go.Proofs.Ytlkaeonedijfpaa

namespace Go.Proofs.Ytlkaeonedijfpaa
open Go.RowKit C
set_option maxRecDepth 100000 in
set_option maxHeartbeats 8000000 in
theorem oin_none5 (w0 w : World) (rb pb ab : Nat) (at0 : Int) (l r1 r2 r3 r4 : Bs) (op a b c : Int) (h : Rd w0 w rb l) (hb : Bo w pb ab rb at0) (hab : w0.heap.size ≤ ab) (h1 : numD l = some (op, r1)) (h2 : numD r1 = some (a, r2)) (h3 : numD r2 = some (b, r3)) (h4 : numD r3 = some (c, r4)) (h5 : numD r4 = none) :
    Calls Try.prog 76 #[.pointer (some ⟨pb, 0, none⟩), .pointer (some ⟨ab, 0, none⟩)] w fun e w' => e = PE ∧ Mw w w' rb ab := by
  have hlt := h.lt
  have HRA := Lib.hid ((h.alloc zIn).drew)
  have HBA : Hid (Bo (w.alloc zIn).drew pb ab rb at0) := Lib.hid (hb.mv (Mv.drew' ((Mv.refl w rb).alloc zIn)))
  have c0 := HBA.out.pc
  have HK : Hid (∀ V, Mv (w.alloc zIn).drew V rb → V.cell? ⟨pb, 0, none⟩ = some (.pointer (some ⟨rb, 0, none⟩))) := Lib.hid fun V hV => (HBA.out.mv hV).pc
  have N1 := Lib.hid h1
  have N2 := Lib.hid h2
  have N3 := Lib.hid h3
  have N4 := Lib.hid h4
  have N5 := Lib.hid h5
  have KC : Hid (∀ V W, (V.cell? ⟨pb, 0, none⟩ = some (.pointer (some ⟨rb, 0, none⟩)) ∧ Mv (w.alloc zIn).drew V rb) → Mv V W rb → (W.cell? ⟨pb, 0, none⟩ = some (.pointer (some ⟨rb, 0, none⟩)) ∧ Mv (w.alloc zIn).drew W rb)) := Lib.hid fun V W h hm => ⟨HK.out _ (h.2.trans hm), h.2.trans hm⟩
  have KA : Hid (∀ V o, (V.cell? ⟨pb, 0, none⟩ = some (.pointer (some ⟨rb, 0, none⟩)) ∧ Mv (w.alloc zIn).drew V rb) → ((V.alloc o).cell? ⟨pb, 0, none⟩ = some (.pointer (some ⟨rb, 0, none⟩)) ∧ Mv (w.alloc zIn).drew (V.alloc o) rb)) := Lib.hid fun V o h => ⟨HK.out _ (h.2.alloc o), h.2.alloc o⟩
  have KS : Hid (∀ V b a0 a1 a2 a3 a4, (w.alloc zIn).drew.heap.size ≤ b → (V.cell? ⟨pb, 0, none⟩ = some (.pointer (some ⟨rb, 0, none⟩)) ∧ Mv (w.alloc zIn).drew V rb) → (((((((V.setCell ⟨b, 0, none⟩ a0).setCell ⟨b, 1, none⟩ a1).setCell ⟨b, 2, none⟩ a2).setCell ⟨b, 3, none⟩ a3).setCell ⟨b, 4, none⟩ a4)).cell? ⟨pb, 0, none⟩ = some (.pointer (some ⟨rb, 0, none⟩)) ∧ Mv (w.alloc zIn).drew (((((V.setCell ⟨b, 0, none⟩ a0).setCell ⟨b, 1, none⟩ a1).setCell ⟨b, 2, none⟩ a2).setCell ⟨b, 3, none⟩ a3).setCell ⟨b, 4, none⟩ a4) rb)) := Lib.hid fun V b a0 a1 a2 a3 a4 hb h => ⟨HK.out _ (((((h.2.other hb).other hb).other hb).other hb).other hb), ((((h.2.other hb).other hb).other hb).other hb).other hb⟩
  have KZ : Hid (∀ V, Mv (w.alloc zIn).drew V rb → (w.alloc zIn).drew.heap.size ≤ V.heap.size) := Lib.hid fun V h => h.size
  have HSZ : Hid (w.heap.size + 1 = (w.alloc zIn).drew.heap.size) := Lib.hid (by simp)
  have HSZ2 : Hid (w.heap.size + 1 = (w.alloc zIn).heap.size) := Lib.hid (by simp)
  have HNE : Hid (w.heap.size + 1 ≠ rb) := Lib.hid (by omega)
  have HSL : Hid ((w.alloc zIn).drew.heap.size ≤ w.heap.size + 1) := Lib.hid (by simp)
  have hSt : (w.alloc zIn).drew.cell? ⟨pb, 0, none⟩ = some (.pointer (some ⟨rb, 0, none⟩)) ∧ Mv (w.alloc zIn).drew (w.alloc zIn).drew rb := ⟨c0, Mv.refl _ _⟩
  have HVD : Hid (∀ V, Mv (w.alloc zIn).drew V rb → Mv (w.alloc zIn).drew V rb) := Lib.hid fun V h => h
  have hw0 := h.bel.size
  have HZP : Hid (w.heap.size ≠ pb) := Lib.hid (by have := (Array.getElem?_eq_some_iff.1 hb.p).1; omega)
  have HZR : Hid (w.heap.size ≠ rb) := Lib.hid (by omega)
  have HZA : Hid (ab ≠ w.heap.size) := Lib.hid (by have := (Array.getElem?_eq_some_iff.1 hb.a).1; omega)
  have HW0 : Hid (w0.heap.size ≤ (w.alloc zIn).drew.heap.size) := Lib.hid (by have := h.bel.size; simp; omega)
  have hSt2 : Hid (((w.alloc zIn).alloc zIn).drew.cell? ⟨pb, 0, none⟩ = some (.pointer (some ⟨rb, 0, none⟩)) ∧ Mv (w.alloc zIn).drew ((w.alloc zIn).alloc zIn).drew rb) := Lib.hid (KA.out (w.alloc zIn).drew zIn hSt)
  have HRA2 : Hid (Rd w0 ((w.alloc zIn).alloc zIn).drew rb l) := Lib.hid (((h.alloc zIn).alloc zIn).drew)
  clear h hb h1 h2 h3 h4 h5
  go_enter Try.func76, Try.ntmps76
  go_upto_region 1 with fail
  go_cut [3] (fun s3 w' => ∃ n, s3 = .pointer (some ⟨n, 0, none⟩) ∧ Lf w0 (w.alloc zIn).drew w' rb n r4 #[.int .i64 op, .int .i64 a, .int .i64 b, .int .i64 c, .int .i64 0])
  case first =>
   go_region_held3 (fun w' => w'.cell? ⟨pb, 0, none⟩ = some (.pointer (some ⟨rb, 0, none⟩)) ∧ Mv (w.alloc zIn).drew w' rb)
     (first
       | (with_reducible exact hSt)
       | (with_reducible exact hSt2.out)
       | (with_reducible assumption)
       | (with_reducible exact KS.out _ _ _ _ _ _ _ (KZ.out _ ((hm1.trans hm2).trans hm3)) ‹_›)
       | (with_reducible exact KS.out _ _ _ _ _ _ _ (KZ.out _ (hm1.trans hm2)) ‹_›)
       | (with_reducible exact KS.out _ _ _ _ _ _ _ (KZ.out _ hm1) ‹_›)
       | (with_reducible exact KS.out _ _ _ _ _ _ _ HSL.out ‹_›)
       | (with_reducible exact KC.out _ _ ‹_› hm4)
       | (with_reducible exact KC.out _ _ ‹_› hm3)
       | (with_reducible exact KC.out _ _ ‹_› hm2)
       | (with_reducible exact KC.out _ _ ‹_› hm1)
       | (with_reducible exact KA.out _ _ ‹_›)
       | (with_reducible exact KA.out _ _ (KC.out _ _ (KC.out _ _ (KC.out _ _ (KC.out _ _ hSt hm1) hm2) hm3) hm4)))
     (first
       | (go_at_call 66; (with_reducible refine (onum_some (by first | with_reducible exact hr3 | with_reducible exact hr3.alloc _) N4.out).mono ?_); rintro e w4 ⟨rfl, hr4, hm4⟩; first | (with_reducible (have y0 := (bx5 (n := w3.heap.size) hm4 rfl (ne_sz hr3)).1.1; have y1 := (bx5 (n := w3.heap.size) hm4 rfl (ne_sz hr3)).1.2.1; have y2 := (bx5 (n := w3.heap.size) hm4 rfl (ne_sz hr3)).1.2.2.1; have y3 := (bx5 (n := w3.heap.size) hm4 rfl (ne_sz hr3)).1.2.2.2.1; have y4 := (bx5 (n := w3.heap.size) hm4 rfl (ne_sz hr3)).1.2.2.2.2; have y5 := (bx5 (n := w3.heap.size) hm4 rfl (ne_sz hr3)).2.1; have y6 := (bx5 (n := w3.heap.size) hm4 rfl (ne_sz hr3)).2.2.1; have y7 := (bx5 (n := w3.heap.size) hm4 rfl (ne_sz hr3)).2.2.2.1; have y8 := (bx5 (n := w3.heap.size) hm4 rfl (ne_sz hr3)).2.2.2.2.1; have y9 := (bx5 (n := w3.heap.size) hm4 rfl (ne_sz hr3)).2.2.2.2.2)) | (with_reducible (have y0 := (bx5 (n := w2.heap.size) (hm3.trans hm4) rfl (ne_sz hr2)).1.1; have y1 := (bx5 (n := w2.heap.size) (hm3.trans hm4) rfl (ne_sz hr2)).1.2.1; have y2 := (bx5 (n := w2.heap.size) (hm3.trans hm4) rfl (ne_sz hr2)).1.2.2.1; have y3 := (bx5 (n := w2.heap.size) (hm3.trans hm4) rfl (ne_sz hr2)).1.2.2.2.1; have y4 := (bx5 (n := w2.heap.size) (hm3.trans hm4) rfl (ne_sz hr2)).1.2.2.2.2; have y5 := (bx5 (n := w2.heap.size) (hm3.trans hm4) rfl (ne_sz hr2)).2.1; have y6 := (bx5 (n := w2.heap.size) (hm3.trans hm4) rfl (ne_sz hr2)).2.2.1; have y7 := (bx5 (n := w2.heap.size) (hm3.trans hm4) rfl (ne_sz hr2)).2.2.2.1; have y8 := (bx5 (n := w2.heap.size) (hm3.trans hm4) rfl (ne_sz hr2)).2.2.2.2.1; have y9 := (bx5 (n := w2.heap.size) (hm3.trans hm4) rfl (ne_sz hr2)).2.2.2.2.2)) | (with_reducible (have y0 := (bx5 (n := w1.heap.size) ((hm2.trans hm3).trans hm4) rfl (ne_sz hr1)).1.1; have y1 := (bx5 (n := w1.heap.size) ((hm2.trans hm3).trans hm4) rfl (ne_sz hr1)).1.2.1; have y2 := (bx5 (n := w1.heap.size) ((hm2.trans hm3).trans hm4) rfl (ne_sz hr1)).1.2.2.1; have y3 := (bx5 (n := w1.heap.size) ((hm2.trans hm3).trans hm4) rfl (ne_sz hr1)).1.2.2.2.1; have y4 := (bx5 (n := w1.heap.size) ((hm2.trans hm3).trans hm4) rfl (ne_sz hr1)).1.2.2.2.2; have y5 := (bx5 (n := w1.heap.size) ((hm2.trans hm3).trans hm4) rfl (ne_sz hr1)).2.1; have y6 := (bx5 (n := w1.heap.size) ((hm2.trans hm3).trans hm4) rfl (ne_sz hr1)).2.2.1; have y7 := (bx5 (n := w1.heap.size) ((hm2.trans hm3).trans hm4) rfl (ne_sz hr1)).2.2.2.1; have y8 := (bx5 (n := w1.heap.size) ((hm2.trans hm3).trans hm4) rfl (ne_sz hr1)).2.2.2.2.1; have y9 := (bx5 (n := w1.heap.size) ((hm2.trans hm3).trans hm4) rfl (ne_sz hr1)).2.2.2.2.2)) | (with_reducible (have y0 := (bx5 (n := w.heap.size + 1) (((hm1.drew.trans hm2).trans hm3).trans hm4) HSZ2.out HNE.out).1.1; have y1 := (bx5 (n := w.heap.size + 1) (((hm1.drew.trans hm2).trans hm3).trans hm4) HSZ2.out HNE.out).1.2.1; have y2 := (bx5 (n := w.heap.size + 1) (((hm1.drew.trans hm2).trans hm3).trans hm4) HSZ2.out HNE.out).1.2.2.1; have y3 := (bx5 (n := w.heap.size + 1) (((hm1.drew.trans hm2).trans hm3).trans hm4) HSZ2.out HNE.out).1.2.2.2.1; have y4 := (bx5 (n := w.heap.size + 1) (((hm1.drew.trans hm2).trans hm3).trans hm4) HSZ2.out HNE.out).1.2.2.2.2; have y5 := (bx5 (n := w.heap.size + 1) (((hm1.drew.trans hm2).trans hm3).trans hm4) HSZ2.out HNE.out).2.1; have y6 := (bx5 (n := w.heap.size + 1) (((hm1.drew.trans hm2).trans hm3).trans hm4) HSZ2.out HNE.out).2.2.1; have y7 := (bx5 (n := w.heap.size + 1) (((hm1.drew.trans hm2).trans hm3).trans hm4) HSZ2.out HNE.out).2.2.2.1; have y8 := (bx5 (n := w.heap.size + 1) (((hm1.drew.trans hm2).trans hm3).trans hm4) HSZ2.out HNE.out).2.2.2.2.1; have y9 := (bx5 (n := w.heap.size + 1) (((hm1.drew.trans hm2).trans hm3).trans hm4) HSZ2.out HNE.out).2.2.2.2.2)) | skip)
       | (go_at_call 66; (with_reducible refine (onum_some (by first | with_reducible exact hr2 | with_reducible exact hr2.alloc _) N3.out).mono ?_); rintro e w3 ⟨rfl, hr3, hm3⟩)
       | (go_at_call 66; (with_reducible refine (onum_some (by first | with_reducible exact hr1 | with_reducible exact hr1.alloc _) N2.out).mono ?_); rintro e w2 ⟨rfl, hr2, hm2⟩)
       | (go_at_call 66; (with_reducible refine (onum_some (by first | with_reducible exact HRA.out | with_reducible exact HRA2.out) N1.out).mono ?_); rintro e w1 ⟨rfl, hr1, hm1⟩))
   all_goals
     go_wp2_with fail
     go_meet
     case rel =>
       first
         | (with_reducible refine ⟨w4.heap.size, rfl, ?_⟩; exact lf_alloc hr4 (((hm1.trans hm2).trans hm3).trans hm4))
         | (with_reducible refine ⟨w3.heap.size, rfl, ?_⟩; exact lf_set (V := w3) hr4 ((((hm1.trans hm2).trans hm3).alloc zIn).trans hm4) hm4 rfl (KZ.out _ ((hm1.trans hm2).trans hm3)) (ne_sz hr3) HW0.out)
         | (with_reducible refine ⟨w2.heap.size, rfl, ?_⟩; exact lf_set (V := w2) hr4 ((((hm1.trans hm2).alloc zIn).trans hm3).trans hm4) (hm3.trans hm4) rfl (KZ.out _ (hm1.trans hm2)) (ne_sz hr2) HW0.out)
         | (with_reducible refine ⟨w1.heap.size, rfl, ?_⟩; exact lf_set (V := w1) hr4 (((hm1.alloc zIn).trans hm2).trans (hm3.trans hm4)) ((hm2.trans hm3).trans hm4) rfl (KZ.out _ hm1) (ne_sz hr1) HW0.out)
         | (with_reducible refine ⟨w.heap.size + 1, rfl, ?_⟩; exact lf_set (V := w.alloc zIn) hr4 ((((hSt2.out.2.trans hm1).trans hm2).trans hm3).trans hm4) (((hm1.drew.trans hm2).trans hm3).trans hm4) HSZ2.out HSL.out HNE.out HW0.out)
  case rest =>
    obtain ⟨n, rfl, hL⟩ := hcut
    have HL := Lib.hid hL
    have HB1 : Hid (Bo wc pb ab rb at0) := Lib.hid (HBA.out.mv hL.mv)
    have HR5 := Lib.hid hL.rd.drew
    obtain ⟨i1, i2, i3⟩ : Hid (n ≠ pb) ∧ Hid (n ≠ ab) ∧ Hid (w.heap.size < n) := by
      have h1 := (Array.getElem?_eq_some_iff.1 HBA.out.p).1
      have h2 := (Array.getElem?_eq_some_iff.1 HBA.out.a).1
      have h3 := hL.ge
      refine ⟨Lib.hid ?_, Lib.hid ?_, Lib.hid ?_⟩
      · simp at h1 h3; omega
      · simp at h2 h3; omega
      · simp at h3; omega
    have p0 := HB1.out.pc
    obtain ⟨a0, az⟩ := HB1.out.ac
    have HBZ : Hid (w.heap.size ≠ rb) := HZR
    have HAZ : Hid (ab ≠ w.heap.size) := HZA
    have hne : ab ≠ pb := fun e => HB1.out.n3 e.symm
    have KC2 : Hid (∀ V, Mv wc.drew V rb → V.cell? ⟨pb, 0, none⟩ = some (.pointer (some ⟨rb, 0, none⟩)) ∧ V.cell? ⟨ab, 0, none⟩ = some (.int .i64 at0) ∧ V.frozen? ⟨ab, 0, none⟩ = false) := Lib.hid fun V hV => by
      have := HB1.out.mv hV.drew
      exact ⟨this.pc, this.ac⟩
    have hnp := HB1.out.n1
    clear hL
    clear c0 hSt
    go_wp2_with fail
    have HMW : Hid (∀ W, Mv wc.drew W rb → Mw w W rb ab) := Lib.hid fun W hW => Mw.of (((Mv.drew' ((Mv.refl w rb).alloc zIn)).trans HL.out.mv).trans hW.drew)
    go_region_law (first
      | (go_simp; go_at_call 66; (with_reducible refine (onum_noneF HR5.out N5.out).mono ?_); rintro e w5 (⟨rfl, hm5⟩ | ⟨rfl, rfl, hfalse⟩); (exact ⟨rfl, rfl, HMW.out _ hm5⟩)))
    all_goals exact hfalse.out.elim
theorem oin_gives (w0 w : World) (rb pb ab : Nat) (at0 : Int) (l : Bs) (h : Rd w0 w rb l) (hb : Bo w pb ab rb at0) (hab : w0.heap.size ≤ ab) :
    Calls Try.prog 76 #[.pointer (some ⟨pb, 0, none⟩), .pointer (some ⟨ab, 0, none⟩)] w (InPost w0 w rb pb ab (inD at0 l)) := by
  unfold inD
  cases h1 : numD l with
  | none => exact oin_none1 w0 w rb pb ab at0 l h hb h1
  | some q =>
  obtain ⟨op, r1⟩ := q
  simp only
  cases h2 : numD r1 with
  | none => exact oin_none2 w0 w rb pb ab at0 l r1 op h hb h1 h2
  | some q =>
  obtain ⟨a, r2⟩ := q
  simp only
  cases h3 : numD r2 with
  | none => exact oin_none3 w0 w rb pb ab at0 l r1 r2 op a h hb h1 h2 h3
  | some q =>
  obtain ⟨b, r3⟩ := q
  simp only
  cases h4 : numD r3 with
  | none => exact oin_none4 w0 w rb pb ab at0 l r1 r2 r3 op a b h hb h1 h2 h3 h4
  | some q =>
  obtain ⟨c, r4⟩ := q
  simp only
  cases h5 : numD r4 with
  | none => exact oin_none5 w0 w rb pb ab at0 l r1 r2 r3 r4 op a b c h hb hab h1 h2 h3 h4 h5
  | some q =>
  obtain ⟨t, r5⟩ := q
  simp only
  exact oin_some w0 w rb pb ab at0 l r1 r2 r3 r4 r5 op a b c t h hb hab h1 h2 h3 h4 h5
end Go.Proofs.Ytlkaeonedijfpaa
