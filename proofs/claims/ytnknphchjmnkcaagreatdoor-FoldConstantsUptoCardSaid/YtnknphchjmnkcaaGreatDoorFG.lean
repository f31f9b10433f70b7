/-
  The walks of the program's shortest, conditional, folded (package fold).
-/
import Derived.Test.YtnknphchjmnkcaaGreatDoorFE
set_option linter.all false
namespace Go.Proofs.YtnknphchjmnkcaaGreatDoor
open Go.RowKit T T.Fo
/-- A tree that a call returns: its children lie in blocks of S, or in blocks that the call made. -/
def Gets (S : Nat → Prop) (h : Hd) (k : Fo) (w : World) (e : Ending) (w' : World) : Prop :=
  ∃ (A : Option Addr) (cap : Nat), e = .returned (nv h A k.len cap) ∧ k.len ≤ cap ∧ Kids (fun b => S b ∨ Rng w.heap.size w'.heap.size b) w' A k ∧ Below w.heap.size w w'
theorem Made.gets {S : Nat → Prop} {h : Hd} {k : Fo} {w : World} {e : Ending} {w' : World} (H : Made w h k e w') : Gets S h k w e w' := by
  obtain ⟨A, cap, he, hc, hk, hb⟩ := H
  exact ⟨A, cap, he, hc, hk.carry fun b hS => ⟨.inr hS, rfl⟩, hb⟩
/-- A row of one node. -/
theorem one_row {S : Nat → Prop} {W : World} {g : Nat} {h : Hd} {k : Fo} {A : Option Addr} {cap : Nat} {t : TypeId} (hb : W.heap[g]? = some (.cells (nc h A k.len cap) t (0, 0))) (hg : S g) (hc : k.len ≤ cap) (hk : Kids S W A k) : Kids S W (some ⟨g, 0, none⟩) (.cons h k .nil) := by
  refine .inr ⟨g, 0, rfl, A, cap, hg, hc, ⟨?_, ?_, ?_, ?_, ?_, ?_, ?_, ?_, ?_⟩, ?_, trivial⟩
  all_goals first
    | (simp [World.cell?, hb]; done)
    | exact hk
/-- The result's box is written last. -/
theorem made_w {w W wr : World} {r cap : Nat} {A : Option Addr} {h : Hd} {k : Fo} (h9 : (∀ b, b ≠ r → W.heap[b]? = wr.heap[b]?) ∧ W.heap.size = wr.heap.size ∧ (Below w.heap.size w wr → w.heap.size ≤ r → Below w.heap.size w W))
    (hb : Below w.heap.size w wr) (hr : w.heap.size ≤ r) (hk : Kids (fun b => Rng w.heap.size wr.heap.size b ∧ b ≠ r) wr A k) (hc : k.len ≤ cap) : Made w h k (.returned (nv h A k.len cap)) W :=
  ⟨A, cap, rfl, hc, hk.carry fun b hS => ⟨by rw [h9.2.1]; exact hS.1, h9.1 b hS.2⟩, h9.2.2 hb hr⟩
theorem gets_w {S : Nat → Prop} {w W wr : World} {r cap : Nat} {A : Option Addr} {h : Hd} {k : Fo} (hS : ∀ b, S b → b < w.heap.size) (h9 : (∀ b, b ≠ r → W.heap[b]? = wr.heap[b]?) ∧ W.heap.size = wr.heap.size ∧ (Below w.heap.size w wr → w.heap.size ≤ r → Below w.heap.size w W))
    (hb : Below w.heap.size w wr) (hr : w.heap.size ≤ r) (hk : Kids S w A k) (hc : k.len ≤ cap) : Gets S h k w (.returned (nv h A k.len cap)) W :=
  have HW := h9.2.2 hb hr
  ⟨A, cap, rfl, hc, hk.carry fun b hb => ⟨.inl hb, HW.block b (hS b hb)⟩, HW⟩
theorem kids3S {S : Nat → Prop} {w : World} {A : Option Addr} {h0 h1 h2 : Hd} {k0 k1 k2 : Fo} (hk : Kids S w A (.cons h0 k0 (.cons h1 k1 (.cons h2 k2 .nil)))) : ∃ g o A0 c0 A1 c1 A2 c2, A = some ⟨g, o, none⟩ ∧ At9 w g o h0 A0 k0.len c0 ∧ Kids S w A0 k0 ∧ At9 w g (o + 9) h1 A1 k1.len c1 ∧ Kids S w A1 k1 ∧ At9 w g (o + 18) h2 A2 k2.len c2 ∧ Kids S w A2 k2 ∧ S g ∧ k1.len ≤ c1 ∧ k2.len ≤ c2 := by
  obtain ⟨g, o, A0, c0, rfl, h9, hc, hk0, hr, _, hg⟩ := (Rest.start hk).next
  obtain ⟨g', o', A1, c1, e, h9', hc', hk1, hr', _, _⟩ := hr.next
  cases e
  obtain ⟨g'', o'', A2, c2, e, h9'', hc'', hk2, _, _, _⟩ := hr'.next
  cases e
  rw [show o + 0 * 9 = o by omega] at h9
  rw [show o + (0 + 1) * 9 = o + 9 by omega] at h9'
  rw [show o + (0 + 1 + 1) * 9 = o + 18 by omega] at h9''
  exact ⟨g, o, A0, c0, A1, c1, A2, c2, rfl, h9, hk0, h9', hk1, h9'', hk2, hg, hc', hc''⟩
set_option maxRecDepth 100000
/-- shortest: a negative number. -/
theorem shortest_neg (k v p : Int) (w : World) (hv : decide (v < 0) = true) (h1 : -9223372036854775807 ≤ v) (h2 : v ≤ 0) : Calls Tryz.prog 67 #[.agg #[.int .i64 k, .int .i64 v], .int .i64 p] w (Made w (negH p) (.cons (litH k (-v) p) .nil .nil)) := by
  have hw : IntKind.i64.wrap (-v) = -v := IntWalk.i64_in _ (by omega)
  go_enter Tryz.func67, Tryz.ntmps67
  go_wp2
  refine bodyPost_ret (v := nv (negH p) (some ⟨w.heap.size + 1 + 1, 0, none⟩) 1 1) (by simp [results, Tryz.results67, go_sem, negH]) rfl ?_
  refine ⟨some ⟨w.heap.size + 1 + 1, 0, none⟩, 1, rfl, Nat.le_refl _, ?_, ?_⟩
  · have e := heap_alloc_new ((w.alloc (.cells #[.int .i64 k, .int .i64 v] 49)).alloc (.cells (nc (negH p) (some ⟨w.heap.size + 1 + 1, 0, none⟩) 1 1) 26)) (.cells (nc (litH k (-v) p) none 0 0) 26)
    refine one_row (t := 26) (A := none) (cap := 0) (h := litH k (-v) p) (k := .nil) (by simpa [negH, litH, Fo.len] using e) ⟨by omega, by simp⟩ (Nat.le_refl _) (.inl rfl)
  · repeat' (first | exact Below.refl _ _ | apply Below.setCell | apply Below.alloc | apply Below.drew)
    all_goals (try simp)
    all_goals (try omega)
/-- shortest: another one. -/
theorem shortest_pos (k v p : Int) (w : World) (hv : decide (v < 0) = false) : Calls Tryz.prog 67 #[.agg #[.int .i64 k, .int .i64 v], .int .i64 p] w (Made w (litH k v p) .nil) := by
  go_enter Tryz.func67, Tryz.ntmps67
  go_wp2
  refine bodyPost_ret (v := nv (litH k v p) none 0 0) (by simp [results, Tryz.results67, go_sem, litH]) rfl ?_
  refine ⟨none, 0, rfl, Nat.le_refl _, .inl rfl, ?_⟩
  repeat' (first | exact Below.refl _ _ | apply Below.setCell | apply Below.alloc | apply Below.drew)
  all_goals (try simp)
  all_goals (try omega)

theorem shortest_any (c : Cv) (p : Int) (w : World) (hc : okC c) (hs : isShort c = true) : Calls Tryz.prog 67 #[cvv c, .int .i64 p] w (Made w (shortH c p) (shortK c p)) := by
  obtain ⟨h0, hl⟩ := (isShort_iff c).1 hs
  have hr := okC_rg hc
  obtain ⟨k, v⟩ := c
  unfold rg least at *
  simp only at hr hl
  by_cases x : v < 0
  · have hk : k = 24 := by
      rcases hc with hc | ⟨hk, _⟩ | ⟨hk, hv⟩
      · injection hc with a b; omega
      · exact hk
      · simp only at hv; omega
    have e1 : shortH ⟨k, v⟩ p = negH p := by unfold shortH; rw [if_pos x]
    have e2 : shortK ⟨k, v⟩ p = .cons (litH k (-v) p) .nil .nil := by unfold shortK; rw [if_pos x]
    rw [e1, e2]
    exact shortest_neg k v p w (by simpa using x) (by omega) (by omega)
  · have e1 : shortH ⟨k, v⟩ p = litH k v p := by unfold shortH; rw [if_neg x]
    have e2 : shortK ⟨k, v⟩ p = .nil := by unfold shortK; rw [if_neg x]
    rw [e1, e2]
    exact shortest_pos k v p w (by simpa using x)

/-- A box of nine cells, zero. -/
theorem zero9 {w : World} {b : Nat} (h : w.heap[b]? = some (.cells nc0 26 (0, 0))) : (w.cell? ⟨b, 0, none⟩ = some (.int .i64 0) ∧ w.cell? ⟨b, 1, none⟩ = some (.string ⟨#[]⟩) ∧ w.cell? ⟨b, 2, none⟩ = some (.int .i64 0) ∧ w.cell? ⟨b, 3, none⟩ = some (.int .i64 0) ∧ w.cell? ⟨b, 4, none⟩ = some (.slice none 0 0) ∧ w.cell? ⟨b, 5, none⟩ = some (.int .i64 0) ∧ w.cell? ⟨b, 6, none⟩ = some (.string ⟨#[]⟩) ∧ w.cell? ⟨b, 7, none⟩ = some (.int .i64 0) ∧ w.cell? ⟨b, 8, none⟩ = some (.int .i64 0)) ∧
    w.frozen? ⟨b, 0, none⟩ = false ∧ w.frozen? ⟨b, 1, none⟩ = false ∧ w.frozen? ⟨b, 2, none⟩ = false ∧ w.frozen? ⟨b, 3, none⟩ = false ∧ w.frozen? ⟨b, 4, none⟩ = false ∧ w.frozen? ⟨b, 5, none⟩ = false ∧ w.frozen? ⟨b, 6, none⟩ = false ∧ w.frozen? ⟨b, 7, none⟩ = false ∧ w.frozen? ⟨b, 8, none⟩ = false := by
  simp [World.cell?, World.frozen?, h]
/-- The result's box at a return. -/
theorem ret_cell {fn : Func} {s : Nat} (hr : fn.results = #[ResultVar.cell s 26]) {R : Ending → World → Prop} {a : Act} {W : World} {r n c : Nat} {h : Hd} {A : Option Addr} (ht : a.tmps.getD s undef = .pointer (some ⟨r, 0, none⟩)) (hd : a.defers = [])
    (hb : W.heap[r]? = some (.cells (nc h A n c) 26 (0, 0))) (hR : R (.returned (nv h A n c)) W) : bodyPost Tryz.prog fn R Exit.ret a W := by
  have ht' : a.tmps[s]?.getD undef = .pointer (some ⟨r, 0, none⟩) := by simpa using ht
  have q : ∀ i, W.cell? ⟨r, i, none⟩ = (nc h A n c)[i]? := fun i => by simp [World.cell?, hb]
  have q0 := q 0
  have q1 := q 1
  have q2 := q 2
  have q3 := q 3
  have q4 := q 4
  have q5 := q 5
  have q6 := q 6
  have q7 := q 7
  have q8 := q 8
  clear q
  simp at q0 q1 q2 q3 q4 q5 q6 q7 q8
  exact bodyPost_ret (v := nv h A n c) (by simp [results, hr, ht', go_sem, q0, q1, q2, q3, q4, q5, q6, q7, q8]) hd hR
/-- A box of nine cells, written anew. -/
theorem blk9 {w : World} {r n n' c c' : Nat} {h h' : Hd} {A A' : Option Addr} (H : w.heap[r]? = some (.cells (nc h' A' n' c') 26 (0, 0))) :
    (((((((((w.setCell ⟨r, 0, none⟩ (.int .i64 h.kind)).setCell ⟨r, 1, none⟩ (.string h.text)).setCell ⟨r, 2, none⟩ (.int .i64 h.num)).setCell ⟨r, 3, none⟩ (.int .i64 h.pos)).setCell ⟨r, 4, none⟩ (.slice A n c)).setCell ⟨r, 5, none⟩ (.int .i64 h.tk)).setCell ⟨r, 6, none⟩ (.string h.tn)).setCell ⟨r, 7, none⟩ (.int .i64 h.ref)).setCell ⟨r, 8, none⟩ (.int .i64 h.up)).heap[r]? = some (.cells (nc h A n c) 26 (0, 0)) := by
  simp [World.setCell, Array.getElem?_modify, H]
def RetN (h : Hd) (A : Option Addr) (n cap : Nat) (w : World) (e : Ending) (w' : World) : Prop := e = .returned (nv h A n cap) ∧ Below w.heap.size w w'

set_option maxHeartbeats 2000000 in
theorem cond_0 (p : Int) (g o cap : Nat) (w : World) (h0 h1 h2 : Hd) (A0 A1 A2 : Option Addr) (n0 n1 n2 c0 c1 c2 : Nat) (d : At9 w g o h0 A0 n0 c0) (e : At9 w g (o + 9) h1 A1 n1 c1) (f : At9 w g (o + 18) h2 A2 n2 c2) (hg : g < w.heap.size) (c : Cv) (HK : Hid (EvA h0 A0 n0 c0 w 65536 c)) (t0 : (c.k == 0) = true) :
    Calls Tryz.prog 66 #[.int .i64 p, .slice (some ⟨g, o, none⟩) 3 cap] w (RetN (ifH p) (some ⟨g, o, none⟩) 3 cap w) := by
  have HE := Lib.hid e
  have HF := Lib.hid f
  obtain ⟨d0, d1, d2, d3, d4, d5, d6, d7, d8⟩ := d
  have g1 : ¬ g = w.heap.size := by omega
  have g3 : g < w.heap.size + 1 := by omega
  have HB0 : Hid (Below w.heap.size w (w.alloc (.cells nc0 26))) := Lib.hid (fb1 w _)
  have HR0 : Hid ((w.alloc (.cells nc0 26)).heap[w.heap.size]? = some (.cells nc0 26 (0, 0))) := Lib.hid (heap_alloc_new w _)
  clear e f
  go_enter Tryz.func66, Tryz.ntmps66
  go_wp2_with fail
  refine (HK.out _ HB0.out).mono ?_
  rintro e w1 ⟨rfl, hb1⟩
  have HB1 := Lib.hid (HB0.out.trans (hb1.mono (by simp)))
  obtain ⟨e0, e1, e2, e3, e4, e5, e6, e7, e8⟩ := HE.out.carry (HB1.out.block g hg)
  obtain ⟨x0, x1, x2, x3, x4, x5, x6, x7, x8⟩ := HF.out.carry (HB1.out.block g hg)
  have hr : w1.heap[w.heap.size]? = some (.cells nc0 26 (0, 0)) := (hb1.block _ (by simp)).trans HR0.out
  obtain ⟨⟨r0, r1, r2, r3, r4, r5, r6, r7, r8⟩, f0, f1, f2, f3, f4, f5, f6, f7, f8⟩ := zero9 hr
  have z1 : w.heap.size < w1.heap.size := by have := hb1.size; simp at this; omega
  have z2 : g < w1.heap.size := by omega
  have z3 : ¬ g = w1.heap.size := by omega
  have z4 : ¬ w.heap.size = w1.heap.size := by omega
  have z5 : w.heap.size < w1.heap.size + 1 := by omega
  have HB := HB1
  have HR1 := Lib.hid hr
  clear hb1 hr HK HE HF HR0 HB0 HB1 d0 d1 d2 d3 d4 d5 d6 d7 d8 e0 e1 e2 e3 e4 e5 e6 e7 e8 x0 x1 x2 x3 x4 x5 x6 x7 x8
  go_wp2
  have hbk := blk9 (h' := litH 0 0 0) (A' := none) (n' := 0) (c' := 0) (h := ⟨18, ⟨#[]⟩, 0, p, 0, ⟨#[]⟩, 0, 0⟩) (A := (some ⟨g, o, none⟩)) (n := 3) (c := cap) HR1.out
  exact ret_cell Tryz.results66 (r := w.heap.size) (h := ⟨18, ⟨#[]⟩, 0, p, 0, ⟨#[]⟩, 0, 0⟩) (A := (some ⟨g, o, none⟩)) (n := 3) (c := cap) rfl rfl ((Below.heap_alloc _ _ _ (by simp only [World.setCell, Array.size_modify]; omega)).trans hbk) ⟨rfl, ((nine w w1 w.heap.size _ _ _ _ _ _ _ _ _ rfl).2.2 HB.out (Nat.le_refl _)).alloc (by simp only [World.setCell, Array.size_modify]; omega) _⟩

set_option maxHeartbeats 2000000 in
theorem cond_1 (p : Int) (g o cap : Nat) (w : World) (h0 h1 h2 : Hd) (A0 A1 A2 : Option Addr) (n0 n1 n2 c0 c1 c2 : Nat) (d : At9 w g o h0 A0 n0 c0) (e : At9 w g (o + 9) h1 A1 n1 c1) (f : At9 w g (o + 18) h2 A2 n2 c2) (hg : g < w.heap.size) (c : Cv) (HK : Hid (EvA h0 A0 n0 c0 w 65536 c)) (t0 : (c.k == 0) = false) (t1 : (c.v == 1) = true) :
    Calls Tryz.prog 66 #[.int .i64 p, .slice (some ⟨g, o, none⟩) 3 cap] w (RetN h1 A1 n1 c1 w) := by
  have HE := Lib.hid e
  have HF := Lib.hid f
  obtain ⟨d0, d1, d2, d3, d4, d5, d6, d7, d8⟩ := d
  have g1 : ¬ g = w.heap.size := by omega
  have g3 : g < w.heap.size + 1 := by omega
  have HB0 : Hid (Below w.heap.size w (w.alloc (.cells nc0 26))) := Lib.hid (fb1 w _)
  have HR0 : Hid ((w.alloc (.cells nc0 26)).heap[w.heap.size]? = some (.cells nc0 26 (0, 0))) := Lib.hid (heap_alloc_new w _)
  clear e f
  go_enter Tryz.func66, Tryz.ntmps66
  go_wp2_with fail
  refine (HK.out _ HB0.out).mono ?_
  rintro e w1 ⟨rfl, hb1⟩
  have HB1 := Lib.hid (HB0.out.trans (hb1.mono (by simp)))
  obtain ⟨e0, e1, e2, e3, e4, e5, e6, e7, e8⟩ := HE.out.carry (HB1.out.block g hg)
  obtain ⟨x0, x1, x2, x3, x4, x5, x6, x7, x8⟩ := HF.out.carry (HB1.out.block g hg)
  have hr : w1.heap[w.heap.size]? = some (.cells nc0 26 (0, 0)) := (hb1.block _ (by simp)).trans HR0.out
  obtain ⟨⟨r0, r1, r2, r3, r4, r5, r6, r7, r8⟩, f0, f1, f2, f3, f4, f5, f6, f7, f8⟩ := zero9 hr
  have z1 : w.heap.size < w1.heap.size := by have := hb1.size; simp at this; omega
  have z2 : g < w1.heap.size := by omega
  have z3 : ¬ g = w1.heap.size := by omega
  have z4 : ¬ w.heap.size = w1.heap.size := by omega
  have z5 : w.heap.size < w1.heap.size + 1 := by omega
  have HB := HB1
  have HR1 := Lib.hid hr
  clear hb1 hr HK HE HF HR0 HB0 HB1 d0 d1 d2 d3 d4 d5 d6 d7 d8 x0 x1 x2 x3 x4 x5 x6 x7 x8
  go_wp2
  have hbk := blk9 (h' := litH 0 0 0) (A' := none) (n' := 0) (c' := 0) (h := h1) (A := A1) (n := n1) (c := c1) HR1.out
  exact ret_cell Tryz.results66 (r := w.heap.size) (h := h1) (A := A1) (n := n1) (c := c1) rfl rfl ((Below.heap_alloc _ _ _ (by simp only [World.setCell, Array.size_modify]; omega)).trans hbk) ⟨rfl, ((nine w w1 w.heap.size _ _ _ _ _ _ _ _ _ rfl).2.2 HB.out (Nat.le_refl _)).alloc (by simp only [World.setCell, Array.size_modify]; omega) _⟩

set_option maxHeartbeats 2000000 in
theorem cond_2 (p : Int) (g o cap : Nat) (w : World) (h0 h1 h2 : Hd) (A0 A1 A2 : Option Addr) (n0 n1 n2 c0 c1 c2 : Nat) (d : At9 w g o h0 A0 n0 c0) (e : At9 w g (o + 9) h1 A1 n1 c1) (f : At9 w g (o + 18) h2 A2 n2 c2) (hg : g < w.heap.size) (c : Cv) (HK : Hid (EvA h0 A0 n0 c0 w 65536 c)) (t0 : (c.k == 0) = false) (t1 : (c.v == 1) = false) (t2 : (h2.kind == 9) = true) :
    Calls Tryz.prog 66 #[.int .i64 p, .slice (some ⟨g, o, none⟩) 3 cap] w (RetN (blkH p) none 0 0 w) := by
  have HE := Lib.hid e
  have HF := Lib.hid f
  obtain ⟨d0, d1, d2, d3, d4, d5, d6, d7, d8⟩ := d
  have g1 : ¬ g = w.heap.size := by omega
  have g3 : g < w.heap.size + 1 := by omega
  have HB0 : Hid (Below w.heap.size w (w.alloc (.cells nc0 26))) := Lib.hid (fb1 w _)
  have HR0 : Hid ((w.alloc (.cells nc0 26)).heap[w.heap.size]? = some (.cells nc0 26 (0, 0))) := Lib.hid (heap_alloc_new w _)
  clear e f
  go_enter Tryz.func66, Tryz.ntmps66
  go_wp2_with fail
  refine (HK.out _ HB0.out).mono ?_
  rintro e w1 ⟨rfl, hb1⟩
  have HB1 := Lib.hid (HB0.out.trans (hb1.mono (by simp)))
  obtain ⟨e0, e1, e2, e3, e4, e5, e6, e7, e8⟩ := HE.out.carry (HB1.out.block g hg)
  obtain ⟨x0, x1, x2, x3, x4, x5, x6, x7, x8⟩ := HF.out.carry (HB1.out.block g hg)
  have hr : w1.heap[w.heap.size]? = some (.cells nc0 26 (0, 0)) := (hb1.block _ (by simp)).trans HR0.out
  obtain ⟨⟨r0, r1, r2, r3, r4, r5, r6, r7, r8⟩, f0, f1, f2, f3, f4, f5, f6, f7, f8⟩ := zero9 hr
  have z1 : w.heap.size < w1.heap.size := by have := hb1.size; simp at this; omega
  have z2 : g < w1.heap.size := by omega
  have z3 : ¬ g = w1.heap.size := by omega
  have z4 : ¬ w.heap.size = w1.heap.size := by omega
  have z5 : w.heap.size < w1.heap.size + 1 := by omega
  have HB := HB1
  have HR1 := Lib.hid hr
  clear hb1 hr HK HE HF HR0 HB0 HB1 d0 d1 d2 d3 d4 d5 d6 d7 d8 e0 e1 e2 e3 e4 e5 e6 e7 e8 x1 x2 x3 x4 x5 x6 x7 x8
  go_wp2
  have hbk := blk9 (h' := litH 0 0 0) (A' := none) (n' := 0) (c' := 0) (h := ⟨10, ⟨#[]⟩, 0, p, 0, ⟨#[]⟩, 0, 0⟩) (A := none) (n := 0) (c := 0) HR1.out
  exact ret_cell Tryz.results66 (r := w.heap.size) (h := ⟨10, ⟨#[]⟩, 0, p, 0, ⟨#[]⟩, 0, 0⟩) (A := none) (n := 0) (c := 0) rfl rfl ((Below.heap_alloc _ _ _ (by simp only [World.setCell, Array.size_modify]; omega)).trans hbk) ⟨rfl, ((nine w w1 w.heap.size _ _ _ _ _ _ _ _ _ rfl).2.2 HB.out (Nat.le_refl _)).alloc (by simp only [World.setCell, Array.size_modify]; omega) _⟩

set_option maxHeartbeats 2000000 in
theorem cond_3 (p : Int) (g o cap : Nat) (w : World) (h0 h1 h2 : Hd) (A0 A1 A2 : Option Addr) (n0 n1 n2 c0 c1 c2 : Nat) (d : At9 w g o h0 A0 n0 c0) (e : At9 w g (o + 9) h1 A1 n1 c1) (f : At9 w g (o + 18) h2 A2 n2 c2) (hg : g < w.heap.size) (c : Cv) (HK : Hid (EvA h0 A0 n0 c0 w 65536 c)) (t0 : (c.k == 0) = false) (t1 : (c.v == 1) = false) (t2 : (h2.kind == 9) = false) :
    Calls Tryz.prog 66 #[.int .i64 p, .slice (some ⟨g, o, none⟩) 3 cap] w (RetN h2 A2 n2 c2 w) := by
  have HE := Lib.hid e
  have HF := Lib.hid f
  obtain ⟨d0, d1, d2, d3, d4, d5, d6, d7, d8⟩ := d
  have g1 : ¬ g = w.heap.size := by omega
  have g3 : g < w.heap.size + 1 := by omega
  have HB0 : Hid (Below w.heap.size w (w.alloc (.cells nc0 26))) := Lib.hid (fb1 w _)
  have HR0 : Hid ((w.alloc (.cells nc0 26)).heap[w.heap.size]? = some (.cells nc0 26 (0, 0))) := Lib.hid (heap_alloc_new w _)
  clear e f
  go_enter Tryz.func66, Tryz.ntmps66
  go_wp2_with fail
  refine (HK.out _ HB0.out).mono ?_
  rintro e w1 ⟨rfl, hb1⟩
  have HB1 := Lib.hid (HB0.out.trans (hb1.mono (by simp)))
  obtain ⟨e0, e1, e2, e3, e4, e5, e6, e7, e8⟩ := HE.out.carry (HB1.out.block g hg)
  obtain ⟨x0, x1, x2, x3, x4, x5, x6, x7, x8⟩ := HF.out.carry (HB1.out.block g hg)
  have hr : w1.heap[w.heap.size]? = some (.cells nc0 26 (0, 0)) := (hb1.block _ (by simp)).trans HR0.out
  obtain ⟨⟨r0, r1, r2, r3, r4, r5, r6, r7, r8⟩, f0, f1, f2, f3, f4, f5, f6, f7, f8⟩ := zero9 hr
  have z1 : w.heap.size < w1.heap.size := by have := hb1.size; simp at this; omega
  have z2 : g < w1.heap.size := by omega
  have z3 : ¬ g = w1.heap.size := by omega
  have z4 : ¬ w.heap.size = w1.heap.size := by omega
  have z5 : w.heap.size < w1.heap.size + 1 := by omega
  have HB := HB1
  have HR1 := Lib.hid hr
  clear hb1 hr HK HE HF HR0 HB0 HB1 d0 d1 d2 d3 d4 d5 d6 d7 d8 e0 e1 e2 e3 e4 e5 e6 e7 e8
  go_wp2
  have hbk := blk9 (h' := litH 0 0 0) (A' := none) (n' := 0) (c' := 0) (h := h2) (A := A2) (n := n2) (c := c2) HR1.out
  exact ret_cell Tryz.results66 (r := w.heap.size) (h := h2) (A := A2) (n := n2) (c := c2) rfl rfl ((Below.heap_alloc _ _ _ (by simp only [World.setCell, Array.size_modify]; omega)).trans hbk) ⟨rfl, ((nine w w1 w.heap.size _ _ _ _ _ _ _ _ _ rfl).2.2 HB.out (Nat.le_refl _)).alloc (by simp only [World.setCell, Array.size_modify]; omega) _⟩

theorem cond_any {S : Nat → Prop} (p : Int) (K : Fo) (A : Option Addr) (cap : Nat) (w : World) (hS : ∀ b, S b → b < w.heap.size) (hk : Kids S w A K) (hc : K.len ≤ cap) (h3 : K.len = 3) (hd : K.dep + 1 ≤ 65536) : Calls Tryz.prog 66 #[.int .i64 p, .slice A K.len cap] w (Gets S (condT p K).1 (condT p K).2 w) := by
  match K, h3 with
  | .cons h0 k0 (.cons h1 k1 (.cons h2 k2 .nil)), _ =>
    have hk' := hk
    obtain ⟨g, o, A0, c0, A1, c1, A2, c2, rfl, d, hk0, e, hk1, f, hk2, hg, l1, l2⟩ := kids3S hk'
    have hdd := dep_kid (h := h0) (k := k0) (r := .cons h1 k1 (.cons h2 k2 .nil))
    have HK := Lib.hid ((evaluate_any h0 k0).at_ (A := A0) (cap := c0) (w := w) (L := 65536) (hk0.carry fun b hb => ⟨hS b hb, rfl⟩) (by omega) (by omega))
    have fin : ∀ (h : Hd) (k : Fo) (A' : Option Addr) (c' : Nat), k.len ≤ c' → Kids S w A' k → ∀ e w', RetN h A' k.len c' w e w' → Gets S h k w e w' := fun h k A' c' hl hkk e w' hr =>
      ⟨A', c', hr.1, hl, hkk.carry fun b hb => ⟨.inl hb, hr.2.block b (hS b hb)⟩, hr.2⟩
    have e0 : condT p (.cons h0 k0 (.cons h1 k1 (.cons h2 k2 .nil))) = if (evT h0 k0).k = 0 then (ifH p, .cons h0 k0 (.cons h1 k1 (.cons h2 k2 .nil))) else if (evT h0 k0).v = 1 then (h1, k1) else if h2.kind = 9 then (blkH p, .nil) else (h2, k2) := rfl
    by_cases t0 : (evT h0 k0).k = 0
    · rw [e0, if_pos t0]
      exact (cond_0 p g o cap w h0 h1 h2 A0 A1 A2 k0.len k1.len k2.len c0 c1 c2 d e f (hS g hg) _ HK (by simpa using t0)).mono (fin _ _ _ _ hc hk)
    · by_cases t1 : (evT h0 k0).v = 1
      · rw [e0, if_neg t0, if_pos t1]
        exact (cond_1 p g o cap w h0 h1 h2 A0 A1 A2 k0.len k1.len k2.len c0 c1 c2 d e f (hS g hg) _ HK (by simpa using t0) (by simpa using t1)).mono (fin _ _ _ _ l1 hk1)
      · by_cases t2 : h2.kind = 9
        · rw [e0, if_neg t0, if_neg t1, if_pos t2]
          exact (cond_2 p g o cap w h0 h1 h2 A0 A1 A2 k0.len k1.len k2.len c0 c1 c2 d e f (hS g hg) _ HK (by simpa using t0) (by simpa using t1) (by simpa using t2)).mono (fin _ .nil _ _ (Nat.le_refl _) (.inl rfl))
        · rw [e0, if_neg t0, if_neg t1, if_neg t2]
          exact (cond_3 p g o cap w h0 h1 h2 A0 A1 A2 k0.len k1.len k2.len c0 c1 c2 d e f (hS g hg) _ HK (by simpa using t0) (by simpa using t1) (by simpa using t2)).mono (fin _ _ _ _ l2 hk2)

end Go.Proofs.YtnknphchjmnkcaaGreatDoor
