/-
  The walks of the law's own binary, number, printing, printed (package interleavelaw07).
-/
import Derived.Test.YtnknphchjmnkcaaGreatDoorFI
set_option linter.all false
namespace Go.Proofs.YtnknphchjmnkcaaGreatDoor
open Go.RowKit T T.Fo
/-- A tree that a call returns, wherever it lies. -/
def Got (h : Hd) (k : Fo) (w : World) (e : Ending) (w' : World) : Prop := ∃ (A : Option Addr) (cap : Nat), e = .returned (nv h A k.len cap) ∧ k.len ≤ cap ∧ Kids (Lt w'.heap.size) w' A k ∧ Below w.heap.size w w'
theorem Made.got {h : Hd} {k : Fo} {w : World} {e : Ending} {w' : World} (H : Made w h k e w') : Got h k w e w' := by
  obtain ⟨A, cap, a, b, c, d⟩ := H
  exact ⟨A, cap, a, b, c.carry fun b hb => ⟨hb.2, rfl⟩, d⟩
theorem Got.below {h : Hd} {k : Fo} {w0 w : World} {e : Ending} {w' : World} (hb : Below w0.heap.size w0 w) (H : Got h k w e w') : Got h k w0 e w' := by
  obtain ⟨A, cap, a, b, c, d⟩ := H
  exact ⟨A, cap, a, b, c, hb.trans (d.mono hb.size)⟩
def binH (op : ByteArray) : Hd := ⟨32, op, 0, 0, 0, ⟨#[]⟩, 0, 0⟩
/-- A row of two nodes. -/
theorem two_row {S : Nat → Prop} {W : World} {g : Nat} {h h' : Hd} {k k' : Fo} {A A' : Option Addr} {cap cap' : Nat} {t : TypeId}
    (hb : W.heap[g]? = some (.cells #[.int .i64 h.kind, .string h.text, .int .i64 h.num, .int .i64 h.pos, .slice A k.len cap, .int .i64 h.tk, .string h.tn, .int .i64 h.ref, .int .i64 h.up, .int .i64 h'.kind, .string h'.text, .int .i64 h'.num, .int .i64 h'.pos, .slice A' k'.len cap', .int .i64 h'.tk, .string h'.tn, .int .i64 h'.ref, .int .i64 h'.up] t (0, 0)))
    (hg : S g) (hc : k.len ≤ cap) (hk : Kids S W A k) (hc' : k'.len ≤ cap') (hk' : Kids S W A' k') : Kids S W (some ⟨g, 0, none⟩) (.cons h k (.cons h' k' .nil)) := by
  refine .inr ⟨g, 0, rfl, A, cap, hg, hc, ⟨?_, ?_, ?_, ?_, ?_, ?_, ?_, ?_, ?_⟩, ?_, A', cap', hg, hc', ⟨?_, ?_, ?_, ?_, ?_, ?_, ?_, ?_, ?_⟩, ?_, trivial⟩
  all_goals first
    | (simp [World.cell?, hb]; done)
    | exact hk
    | exact hk'
theorem three_row {S : Nat → Prop} {W : World} {g : Nat} {h h' h2 : Hd} {k k' k2 : Fo} {A A' A2 : Option Addr} {cap cap' c2 : Nat} {t : TypeId}
    (hb : W.heap[g]? = some (.cells #[.int .i64 h.kind, .string h.text, .int .i64 h.num, .int .i64 h.pos, .slice A k.len cap, .int .i64 h.tk, .string h.tn, .int .i64 h.ref, .int .i64 h.up, .int .i64 h'.kind, .string h'.text, .int .i64 h'.num, .int .i64 h'.pos, .slice A' k'.len cap', .int .i64 h'.tk, .string h'.tn, .int .i64 h'.ref, .int .i64 h'.up, .int .i64 h2.kind, .string h2.text, .int .i64 h2.num, .int .i64 h2.pos, .slice A2 k2.len c2, .int .i64 h2.tk, .string h2.tn, .int .i64 h2.ref, .int .i64 h2.up] t (0, 0)))
    (hg : S g) (hc : k.len ≤ cap) (hk : Kids S W A k) (hc' : k'.len ≤ cap') (hk' : Kids S W A' k') (hc2 : k2.len ≤ c2) (hk2 : Kids S W A2 k2) : Kids S W (some ⟨g, 0, none⟩) (.cons h k (.cons h' k' (.cons h2 k2 .nil))) := by
  refine .inr ⟨g, 0, rfl, A, cap, hg, hc, ⟨?_, ?_, ?_, ?_, ?_, ?_, ?_, ?_, ?_⟩, ?_, A', cap', hg, hc', ⟨?_, ?_, ?_, ?_, ?_, ?_, ?_, ?_, ?_⟩, ?_, A2, c2, hg, hc2, ⟨?_, ?_, ?_, ?_, ?_, ?_, ?_, ?_, ?_⟩, ?_, trivial⟩
  all_goals first
    | (simp [World.cell?, hb]; done)
    | exact hk
    | exact hk'
    | exact hk2
set_option maxRecDepth 100000
theorem alloc_at {W : World} {a : Array Value} {t : TypeId} {i : Nat} (hi : i = W.heap.size) : (W.alloc (.cells a t)).heap[i]? = some (.cells a t (0, 0)) := hi ▸ heap_alloc_new _ _
theorem Gets.got {S : Nat → Prop} {h : Hd} {k : Fo} {w : World} {e : Ending} {w' : World} (hS : ∀ b, S b → b < w.heap.size) (H : Gets S h k w e w') : Got h k w e w' := by
  obtain ⟨A, cap, a, b, c, d⟩ := H
  exact ⟨A, cap, a, b, c.carry fun b hb => ⟨by
    have := d.size
    rcases hb with hb | hb
    · have := hS b hb; show b < _; omega
    · exact hb.2, rfl⟩, d⟩
theorem binary_gets {S : Nat → Prop} (op : ByteArray) (h1 h2 : Hd) (k1 k2 : Fo) (A1 A2 : Option Addr) (c1 c2 : Nat) (w : World) (hS : ∀ b, S b → b < w.heap.size) (hc1 : k1.len ≤ c1) (hk1 : Kids S w A1 k1) (hc2 : k2.len ≤ c2) (hk2 : Kids S w A2 k2) : Calls Tryz.prog 20 #[.string op, nv h1 A1 k1.len c1, nv h2 A2 k2.len c2] w (Gets S (binH op) (.cons h1 k1 (.cons h2 k2 .nil)) w) := by
  have H1 := Lib.hid hc1
  have H2 := Lib.hid hk1
  have H3 := Lib.hid hc2
  have H4 := Lib.hid hk2
  have HS := Lib.hid hS
  have HB : Hid (∀ o1 o2 o3 o4, Below w.heap.size w ((((w.alloc o1).alloc o2).alloc o3).alloc o4)) := Lib.hid fun o1 o2 o3 o4 => fbel3 (fb1 _ _)
  have HKS : Hid (∀ W A k, Below w.heap.size w W → Kids S w A k → Kids (fun b => S b ∨ Rng w.heap.size W.heap.size b) W A k) := Lib.hid fun W A k hb hk => hk.carry fun b h => ⟨.inl h, hb.block b (HS.out b h)⟩
  clear hc1 hk1 hc2 hk2 hS
  go_enter Tryz.func20, Tryz.ntmps20
  go_wp2
  refine ret_cell Tryz.results20 (r := w.heap.size + 1 + 1) (h := ⟨32, op, 0, 0, 0, ⟨#[]⟩, 0, 0⟩) (A := some ⟨w.heap.size + 1 + 1 + 1, 0, none⟩) (n := 2) (c := 2) rfl rfl ((Below.heap_alloc _ _ _ (by simp only [World.size_alloc]; omega)).trans (alloc_at (by simp only [World.size_alloc]))) ⟨some ⟨w.heap.size + 1 + 1 + 1, 0, none⟩, 2, rfl, Nat.le_refl _, ?_, HB.out _ _ _ _⟩
  exact two_row (t := 26) (alloc_at (by simp only [World.size_alloc])) (.inr ⟨by omega, by simp only [World.size_alloc]; omega⟩) H1.out (HKS.out _ _ _ (HB.out _ _ _ _) H2.out) H3.out (HKS.out _ _ _ (HB.out _ _ _ _) H4.out)
theorem binary_any (op : ByteArray) (h1 h2 : Hd) (k1 k2 : Fo) (A1 A2 : Option Addr) (c1 c2 : Nat) (w : World) (hc1 : k1.len ≤ c1) (hk1 : Kids (Lt w.heap.size) w A1 k1) (hc2 : k2.len ≤ c2) (hk2 : Kids (Lt w.heap.size) w A2 k2) : Calls Tryz.prog 20 #[.string op, nv h1 A1 k1.len c1, nv h2 A2 k2.len c2] w (Got (binH op) (.cons h1 k1 (.cons h2 k2 .nil)) w) :=
  (binary_gets op h1 h2 k1 k2 A1 A2 c1 c2 w (fun b hb => hb) hc1 hk1 hc2 hk2).mono fun e w' H => H.got (fun b hb => hb)
/-- An expression with a value. -/
def negT (v : Int) : Hd × Fo := (negH 0, .cons (litH 24 (-v) 0) .nil .nil)
def numT (v : Int) : Hd × Fo := if 0 ≤ v then (litH 24 v 0, .nil) else if v = -9223372036854775808 then (binH ⟨#[45]⟩, .cons (negT (-9223372036854775807)).1 (negT (-9223372036854775807)).2 (.cons (litH 24 1 0) .nil .nil)) else negT v
theorem number_pos (v : Int) (w : World) (hv : decide (0 ≤ v) = true) : Calls Tryz.prog 21 #[.int .i64 v] w (Made w (litH 24 v 0) .nil) := by
  go_enter Tryz.func21, Tryz.ntmps21
  go_wp2
  refine bodyPost_ret (v := nv (litH 24 v 0) none 0 0) (by simp [results, Tryz.results21, go_sem, litH]) rfl ?_
  exact ⟨none, 0, rfl, Nat.le_refl _, .inl rfl, fb1 _ _⟩
theorem number_neg (v : Int) (w : World) (hv : decide (0 ≤ v) = false) (h1 : -9223372036854775807 ≤ v) (h2 : v ≤ 0) (h3 : (v == -9223372036854775808) = false) : Calls Tryz.prog 21 #[.int .i64 v] w (Made w (negT v).1 (negT v).2) := by
  have hw : IntKind.i64.wrap (-v) = -v := IntWalk.i64_in _ (by omega)
  have HB : Hid (∀ o1 o2, Below w.heap.size w ((w.alloc o1).alloc o2)) := Lib.hid fun o1 o2 => fbel1 (fb1 _ _)
  go_enter Tryz.func21, Tryz.ntmps21
  go_wp2
  refine ret_cell Tryz.results21 (r := w.heap.size) (h := ⟨31, ⟨#[45]⟩, 0, 0, 0, ⟨#[]⟩, 0, 0⟩) (A := some ⟨w.heap.size + 1, 0, none⟩) (n := 1) (c := 1) rfl rfl ((Below.heap_alloc _ _ _ (by simp only [World.size_alloc]; omega)).trans (alloc_at rfl)) ⟨some ⟨w.heap.size + 1, 0, none⟩, 1, rfl, Nat.le_refl _, ?_, HB.out _ _⟩
  exact one_row (t := 26) (h := ⟨24, ⟨#[]⟩, -v, 0, 0, ⟨#[]⟩, 0, 0⟩) (k := .nil) (A := none) (cap := 0) (alloc_at (by simp only [World.size_alloc])) ⟨by omega, by simp only [World.size_alloc]; omega⟩ (Nat.le_refl _) (.inl rfl)
theorem number_least (w : World) : Calls Tryz.prog 21 #[.int .i64 (-9223372036854775808)] w (Made w (binH ⟨#[45]⟩) (.cons (negT (-9223372036854775807)).1 (negT (-9223372036854775807)).2 (.cons (litH 24 1 0) .nil .nil))) := by
  have HA : Hid (∀ V, Calls Tryz.prog 21 #[.int .i64 (-9223372036854775807)] V (Made V (negT (-9223372036854775807)).1 (negT (-9223372036854775807)).2)) := Lib.hid fun V => number_neg _ V (by decide) (by decide) (by decide) (by decide)
  have HO : Hid (∀ V, Calls Tryz.prog 21 #[.int .i64 1] V (Made V (litH 24 1 0) .nil)) := Lib.hid fun V => number_pos 1 V (by decide)
  go_enter Tryz.func21, Tryz.ntmps21
  go_wp2_with fail
  refine (HA.out _).mono ?_
  rintro e w1 ⟨A1, c1, rfl, l1, k1, b1⟩
  have s1 : w.heap.size < w1.heap.size := by have := b1.size; simp at this; omega
  have HR1 := Lib.hid ((b1.block w.heap.size (by simp)).trans (heap_alloc_new w _))
  have HB1 := Lib.hid (fbel1 b1)
  have HK1 := Lib.hid k1
  have HL1 := Lib.hid l1
  clear b1 k1 l1
  go_wp2_with fail
  refine (HO.out _).mono ?_
  rintro e w2 ⟨A2, c2, rfl, l2, k2, b2⟩
  have s2 : w.heap.size < w2.heap.size := by have := b2.size; omega
  have HR2 := Lib.hid ((b2.block _ s1).trans HR1.out)
  have HB2 := Lib.hid (HB1.out.trans (b2.mono (by omega)))
  have HC := Lib.hid (binary_gets (S := Rng (w.heap.size + 1) w2.heap.size) ⟨#[45]⟩ (negT (-9223372036854775807)).1 (litH 24 1 0) (negT (-9223372036854775807)).2 .nil A1 A2 c1 c2 w2 (fun b hb => hb.2) HL1.out (HK1.out.carry fun b hb => ⟨⟨by have := hb.1; simpa using this, Nat.lt_of_lt_of_le hb.2 b2.size⟩, b2.block b hb.2⟩) l2 (k2.carry fun b hb => ⟨⟨by have := hb.1; omega, hb.2⟩, rfl⟩))
  clear b2 k2 l2
  go_wp2_with fail
  refine HC.out.mono ?_
  rintro e w3 ⟨A3, c3, rfl, l3, k3, b3⟩
  have HB3 := Lib.hid (HB2.out.trans (b3.mono (by omega)))
  have HR3 := Lib.hid ((b3.block _ s2).trans HR2.out)
  have HK3 : Hid (Kids (Rng (w.heap.size + 1) w3.heap.size) w3 A3 (.cons (negT (-9223372036854775807)).1 (negT (-9223372036854775807)).2 (.cons (litH 24 1 0) .nil .nil))) := Lib.hid (k3.carry fun b hb => ⟨by
    have := b3.size
    rcases hb with hb | hb
    · exact ⟨hb.1, by have := hb.2; omega⟩
    · exact ⟨by have := hb.1; omega, hb.2⟩, rfl⟩)
  have HL3 := Lib.hid l3
  have hrz := HR3.out
  obtain ⟨⟨r0, r1, r2, r3, r4, r5, r6, r7, r8⟩, f0, f1, f2, f3, f4, f5, f6, f7, f8⟩ := zero9 hrz
  clear b3 k3 l3 hrz HC HA HO
  go_wp2
  have hbk := blk9 (h' := litH 0 0 0) (A' := none) (n' := 0) (c' := 0) (h := ⟨32, ⟨#[45]⟩, 0, 0, 0, ⟨#[]⟩, 0, 0⟩) (A := A3) (n := 2) (c := c3) HR3.out
  have h9 := nine w w3 w.heap.size (.int .i64 32) (.string ⟨#[45]⟩) (.int .i64 0) (.int .i64 0) (.slice A3 2 c3) (.int .i64 0) (.string ⟨#[]⟩) (.int .i64 0) (.int .i64 0) rfl
  have hB := h9.2.2 HB3.out (Nat.le_refl _)
  refine ret_cell Tryz.results21 (r := w.heap.size) (h := ⟨32, ⟨#[45]⟩, 0, 0, 0, ⟨#[]⟩, 0, 0⟩) (A := A3) (n := 2) (c := c3) rfl rfl hbk ⟨A3, c3, rfl, HL3.out, HK3.out.carry (fun b hb => ⟨⟨by have := hb.1; omega, Nat.lt_of_lt_of_eq hb.2 h9.2.1.symm⟩, h9.1 b (by have := hb.1; omega)⟩), hB⟩
theorem number_any (v : Int) (w : World) (hv : rg v) : Calls Tryz.prog 21 #[.int .i64 v] w (Made w (numT v).1 (numT v).2) := by
  unfold rg at hv
  unfold numT
  by_cases h0 : 0 ≤ v
  · rw [if_pos h0]
    exact number_pos v w (by simpa using h0)
  · rw [if_neg h0]
    by_cases h1 : v = -9223372036854775808
    · rw [if_pos h1]
      subst h1
      exact number_least w
    · rw [if_neg h1]
      exact number_neg v w (by simpa using h0) (by omega) (by omega) (by simpa using h1)
/-- The file that prints an expression. -/
def pNode (k : Int) (t : ByteArray) : Hd := ⟨k, t, 0, 0, 0, ⟨#[]⟩, 0, 0⟩
def prK (h : Hd) (k : Fo) : Fo := .cons (pNode 4 ⟨#[102]⟩) (.cons (pNode 5 ⟨#[]⟩) .nil (.cons (pNode 9 ⟨#[]⟩) .nil (.cons (pNode 10 ⟨#[]⟩) (.cons (pNode 21 ⟨#[]⟩) (.cons h k .nil) .nil) .nil))) .nil
theorem printing_any (h : Hd) (k : Fo) (A : Option Addr) (c : Nat) (w : World) (hc : k.len ≤ c) (hk : Kids (Lt w.heap.size) w A k) : Calls Tryz.prog 24 #[nv h A k.len c] w (Got (pNode 1 ⟨#[]⟩) (prK h k) w) := by
  have H1 := Lib.hid hc
  have H2 := Lib.hid hk
  have HB : Hid (∀ o1 o2 o3 o4 o5 o6 o7, Below w.heap.size w (((((((w.alloc o1).alloc o2).alloc o3).alloc o4).alloc o5).alloc o6).alloc o7)) := Lib.hid fun o1 o2 o3 o4 o5 o6 o7 => fbel3 (fbel3 (fb1 _ _))
  clear hc hk
  go_enter Tryz.func24, Tryz.ntmps24
  go_wp2
  refine ret_cell Tryz.results24 (r := w.heap.size + 1) (h := ⟨1, ⟨#[]⟩, 0, 0, 0, ⟨#[]⟩, 0, 0⟩) (A := some ⟨w.heap.size + 1 + 1 + 1 + 1 + 1 + 1, 0, none⟩) (n := 1) (c := 1) rfl rfl ?_ ⟨some ⟨w.heap.size + 1 + 1 + 1 + 1 + 1 + 1, 0, none⟩, 1, rfl, Nat.le_refl _, ?_, HB.out _ _ _ _ _ _ _⟩
  · rw [Below.heap_alloc _ _ _ (by simp only [World.size_alloc]; omega), Below.heap_alloc _ _ _ (by simp only [World.size_alloc]; omega), Below.heap_alloc _ _ _ (by simp only [World.size_alloc]; omega), Below.heap_alloc _ _ _ (by simp only [World.size_alloc]; omega), Below.heap_alloc _ _ _ (by simp only [World.size_alloc]; omega)]
    exact alloc_at (by simp only [World.size_alloc])
  · refine one_row (t := 26) (h := pNode 4 ⟨#[102]⟩) (A := some ⟨w.heap.size + 1 + 1 + 1 + 1 + 1, 0, none⟩) (cap := 3) (alloc_at (by simp only [World.size_alloc])) (by show _ < _; simp only [World.size_alloc]; omega) (Nat.le_refl _) ?_
    refine three_row (t := 26) (h := pNode 5 ⟨#[]⟩) (h' := pNode 9 ⟨#[]⟩) (h2 := pNode 10 ⟨#[]⟩) (k := .nil) (k' := .nil) (A := none) (A' := none) (A2 := some ⟨w.heap.size + 1 + 1 + 1, 0, none⟩) (cap := 0) (cap' := 0) (c2 := 1) ?_ (by show _ < _; simp only [World.size_alloc]; omega) (Nat.le_refl _) (.inl rfl) (Nat.le_refl _) (.inl rfl) (Nat.le_refl _) ?_
    · rw [Below.heap_alloc _ _ _ (by simp only [World.size_alloc]; omega)]
      exact alloc_at (by simp only [World.size_alloc])
    · refine one_row (t := 26) (h := pNode 21 ⟨#[]⟩) (A := some ⟨w.heap.size + 1 + 1, 0, none⟩) (cap := 1) ?_ (by show _ < _; simp only [World.size_alloc]; omega) (Nat.le_refl _) ?_
      · rw [Below.heap_alloc _ _ _ (by simp only [World.size_alloc]; omega), Below.heap_alloc _ _ _ (by simp only [World.size_alloc]; omega), Below.heap_alloc _ _ _ (by simp only [World.size_alloc]; omega)]
        exact alloc_at (by simp only [World.size_alloc])
      · refine one_row (t := 26) (h := h) (A := A) (cap := c) ?_ (by show _ < _; simp only [World.size_alloc]; omega) H1.out (kidsV H2.out (HB.out _ _ _ _ _ _ _))
        rw [Below.heap_alloc _ _ _ (by simp only [World.size_alloc]; omega), Below.heap_alloc _ _ _ (by simp only [World.size_alloc]; omega), Below.heap_alloc _ _ _ (by simp only [World.size_alloc]; omega), Below.heap_alloc _ _ _ (by simp only [World.size_alloc]; omega)]
        exact alloc_at (by simp only [World.size_alloc])

end Go.Proofs.YtnknphchjmnkcaaGreatDoor
