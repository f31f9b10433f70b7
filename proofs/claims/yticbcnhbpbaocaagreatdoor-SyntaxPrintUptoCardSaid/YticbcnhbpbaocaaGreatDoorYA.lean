/-
  The specification's printer: contracts that answer by a text, what stands in a region.
  The specification's printer: operand, base, expressions by kinds (those without lists and blocks).
  The specification's printer: expressions with two children.
-/
import Derived.Test.YticbcnhbpbaocaaGreatDoorRC
import Derived.Test.YticbcnhbpbaocaaGreatDoorTB
set_option linter.all false
namespace Go.Proofs.YticbcnhbpbaocaaGreatDoor
open Go.RowKit T T.Fo
set_option linter.all false
theorem xcell {V w' : World} {b i : Nat} {v : Value} (h : V.cell? ⟨b, i, none⟩ = some v) (hb : Below V.heap.size V w') : w'.cell? ⟨b, i, none⟩ = some v :=
  (hb.cell (p := ⟨b, i, none⟩) (World.block_lt_of_cell? V _ h)).trans h
abbrev xo (h : Hd) (A : Option Addr) (n cap : Nat) : Obj := .cells #[.int .i64 h.kind, .string h.text, .int .i64 h.num, .int .i64 h.pos, .slice A n cap, .int .i64 h.tk, .string h.tn, .int .i64 h.ref, .int .i64 h.up] 26
/-- Bytes as a text. -/
abbrev tx (s : Bs) : ByteArray := ⟨s.toArray⟩
theorem str_fin {a : ByteArray} {s : Bs} (h : a.data.toList = s) : Ending.returned (.string a) = .returned (.string (tx s)) := by
  subst h; rfl
/-- A call that returns a text and keeps what lay there. -/
abbrev RT (f : FuncId) (args : Array Value) (w : World) (x : ByteArray) : Prop := Calls Tryz.prog f args w fun e w' => e = .returned (.string x) ∧ Below w.heap.size w w'
/-- The same at every later world. -/
abbrev RA (f : FuncId) (args : Array Value) (w : World) (x : ByteArray) : Prop := ∀ V, Below w.heap.size w V → RT f args V x
/-- The text of a tree in a line with d tabs. -/
def CX (f : FuncId) (d : Int) (h : Hd) (k : Fo) (s : Bs) : Prop := ∀ (A : Option Addr) (cap : Nat) (w : World), Kids (Lt w.heap.size) w A k → RT f #[nv h A k.len cap, .int .i64 d] w (tx s)
theorem CX.at {f : FuncId} {d : Int} {h : Hd} {k : Fo} {s : Bs} (H : CX f d h k s) {A : Option Addr} {cap : Nat} {w : World} (hk : Kids (Lt w.heap.size) w A k) : RA f #[nv h A k.len cap, .int .i64 d] w (tx s) := fun V hV => H A cap V ((hk.below hV (Nat.le_refl _)).mono hV.size)
theorem xnb (w : World) (h : Hd) (A : Option Addr) (n cap : Nat) : (w.alloc (xo h A n cap)).heap[w.heap.size]? = some (xo h A n cap) := heap_alloc_new w _
theorem xbox {W : World} {b n cap : Nat} {h : Hd} {A : Option Addr} (k : W.heap[b]? = some (xo h A n cap)) : W.cell? ⟨b, 0, none⟩ = some (.int .i64 h.kind) ∧ W.cell? ⟨b, 1, none⟩ = some (.string h.text) ∧ W.cell? ⟨b, 2, none⟩ = some (.int .i64 h.num) ∧ W.cell? ⟨b, 3, none⟩ = some (.int .i64 h.pos) ∧ W.cell? ⟨b, 4, none⟩ = some (.slice A n cap) ∧ W.cell? ⟨b, 5, none⟩ = some (.int .i64 h.tk) ∧ W.cell? ⟨b, 6, none⟩ = some (.string h.tn) ∧ W.cell? ⟨b, 7, none⟩ = some (.int .i64 h.ref) ∧ W.cell? ⟨b, 8, none⟩ = some (.int .i64 h.up) := by
  refine ⟨?_, ?_, ?_, ?_, ?_, ?_, ?_, ?_, ?_⟩ <;> simp [World.cell?, k]
theorem x9 {w : World} {g o n cap : Nat} {h : Hd} {A : Option Addr} (ob : Obj) (H : At9 w g o h A n cap) (hg : g < w.heap.size) : At9 (w.alloc ob) g o h A n cap := H.carry ((b1 w ob).block g hg)
def catF (σ : Hd → Fo → Bs) : Fo → Bs
  | .nil => []
  | .cons h k r => σ h k ++ catF σ r
/-- With commas between. -/
def joinF (τ : Hd → Fo → Bs) : Fo → Bs
  | .nil => []
  | .cons h k r => τ h k ++ catF (fun h k => [44, 32] ++ τ h k) r
def RS1 (b g o : Nat) (hq : Hd) (Aq : Option Addr) (nq cq : Nat) (h0 : Hd) (A0 : Option Addr) (n0 c0 : Nat) (w w' : World) : Prop := w'.cell? ⟨b, 0, none⟩ = some (.int .i64 hq.kind) ∧ w'.cell? ⟨b, 1, none⟩ = some (.string hq.text) ∧ w'.cell? ⟨b, 2, none⟩ = some (.int .i64 hq.num) ∧ w'.cell? ⟨b, 3, none⟩ = some (.int .i64 hq.pos) ∧ w'.cell? ⟨b, 4, none⟩ = some (.slice Aq nq cq) ∧ w'.cell? ⟨b, 5, none⟩ = some (.int .i64 hq.tk) ∧ w'.cell? ⟨b, 6, none⟩ = some (.string hq.tn) ∧ w'.cell? ⟨b, 7, none⟩ = some (.int .i64 hq.ref) ∧ w'.cell? ⟨b, 8, none⟩ = some (.int .i64 hq.up) ∧ w'.cell? ⟨g, o, none⟩ = some (.int .i64 h0.kind) ∧ w'.cell? ⟨g, o + 1, none⟩ = some (.string h0.text) ∧ w'.cell? ⟨g, o + 2, none⟩ = some (.int .i64 h0.num) ∧ w'.cell? ⟨g, o + 3, none⟩ = some (.int .i64 h0.pos) ∧ w'.cell? ⟨g, o + 4, none⟩ = some (.slice A0 n0 c0) ∧ w'.cell? ⟨g, o + 5, none⟩ = some (.int .i64 h0.tk) ∧ w'.cell? ⟨g, o + 6, none⟩ = some (.string h0.tn) ∧ w'.cell? ⟨g, o + 7, none⟩ = some (.int .i64 h0.ref) ∧ w'.cell? ⟨g, o + 8, none⟩ = some (.int .i64 h0.up) ∧ Below w.heap.size w w'
theorem RS1.keep {b g o : Nat} {hq : Hd} {Aq : Option Addr} {nq cq : Nat} {h0 : Hd} {A0 : Option Addr} {n0 c0 : Nat} {w V w' : World} (h : RS1 b g o hq Aq nq cq h0 A0 n0 c0 w V) (hb : Below V.heap.size V w') : w'.cell? ⟨b, 0, none⟩ = some (.int .i64 hq.kind) ∧ w'.cell? ⟨b, 1, none⟩ = some (.string hq.text) ∧ w'.cell? ⟨b, 2, none⟩ = some (.int .i64 hq.num) ∧ w'.cell? ⟨b, 3, none⟩ = some (.int .i64 hq.pos) ∧ w'.cell? ⟨b, 4, none⟩ = some (.slice Aq nq cq) ∧ w'.cell? ⟨b, 5, none⟩ = some (.int .i64 hq.tk) ∧ w'.cell? ⟨b, 6, none⟩ = some (.string hq.tn) ∧ w'.cell? ⟨b, 7, none⟩ = some (.int .i64 hq.ref) ∧ w'.cell? ⟨b, 8, none⟩ = some (.int .i64 hq.up) ∧ w'.cell? ⟨g, o, none⟩ = some (.int .i64 h0.kind) ∧ w'.cell? ⟨g, o + 1, none⟩ = some (.string h0.text) ∧ w'.cell? ⟨g, o + 2, none⟩ = some (.int .i64 h0.num) ∧ w'.cell? ⟨g, o + 3, none⟩ = some (.int .i64 h0.pos) ∧ w'.cell? ⟨g, o + 4, none⟩ = some (.slice A0 n0 c0) ∧ w'.cell? ⟨g, o + 5, none⟩ = some (.int .i64 h0.tk) ∧ w'.cell? ⟨g, o + 6, none⟩ = some (.string h0.tn) ∧ w'.cell? ⟨g, o + 7, none⟩ = some (.int .i64 h0.ref) ∧ w'.cell? ⟨g, o + 8, none⟩ = some (.int .i64 h0.up) ∧ Below w.heap.size w w' := by
  obtain ⟨xq0, xq1, xq2, xq3, xq4, xq5, xq6, xq7, xq8, x00, x01, x02, x03, x04, x05, x06, x07, x08, b⟩ := h
  exact ⟨xcell xq0 hb, xcell xq1 hb, xcell xq2 hb, xcell xq3 hb, xcell xq4 hb, xcell xq5 hb, xcell xq6 hb, xcell xq7 hb, xcell xq8 hb, xcell x00 hb, xcell x01 hb, xcell x02 hb, xcell x03 hb, xcell x04 hb, xcell x05 hb, xcell x06 hb, xcell x07 hb, xcell x08 hb, b.trans (hb.mono b.size)⟩
theorem RS1.start {b g o : Nat} {hq : Hd} {Aq : Option Addr} {nq cq : Nat} {h0 : Hd} {A0 : Option Addr} {n0 c0 : Nat} {w V : World} (h : RS1 b g o hq Aq nq cq h0 A0 n0 c0 w V) : V.drew.cell? ⟨b, 0, none⟩ = some (.int .i64 hq.kind) ∧ V.drew.cell? ⟨b, 1, none⟩ = some (.string hq.text) ∧ V.drew.cell? ⟨b, 2, none⟩ = some (.int .i64 hq.num) ∧ V.drew.cell? ⟨b, 3, none⟩ = some (.int .i64 hq.pos) ∧ V.drew.cell? ⟨b, 4, none⟩ = some (.slice Aq nq cq) ∧ V.drew.cell? ⟨b, 5, none⟩ = some (.int .i64 hq.tk) ∧ V.drew.cell? ⟨b, 6, none⟩ = some (.string hq.tn) ∧ V.drew.cell? ⟨b, 7, none⟩ = some (.int .i64 hq.ref) ∧ V.drew.cell? ⟨b, 8, none⟩ = some (.int .i64 hq.up) ∧ V.drew.cell? ⟨g, o, none⟩ = some (.int .i64 h0.kind) ∧ V.drew.cell? ⟨g, o + 1, none⟩ = some (.string h0.text) ∧ V.drew.cell? ⟨g, o + 2, none⟩ = some (.int .i64 h0.num) ∧ V.drew.cell? ⟨g, o + 3, none⟩ = some (.int .i64 h0.pos) ∧ V.drew.cell? ⟨g, o + 4, none⟩ = some (.slice A0 n0 c0) ∧ V.drew.cell? ⟨g, o + 5, none⟩ = some (.int .i64 h0.tk) ∧ V.drew.cell? ⟨g, o + 6, none⟩ = some (.string h0.tn) ∧ V.drew.cell? ⟨g, o + 7, none⟩ = some (.int .i64 h0.ref) ∧ V.drew.cell? ⟨g, o + 8, none⟩ = some (.int .i64 h0.up) ∧ Below w.heap.size w V.drew := by
  obtain ⟨xq0, xq1, xq2, xq3, xq4, xq5, xq6, xq7, xq8, x00, x01, x02, x03, x04, x05, x06, x07, x08, b⟩ := h
  exact ⟨xq0, xq1, xq2, xq3, xq4, xq5, xq6, xq7, xq8, x00, x01, x02, x03, x04, x05, x06, x07, x08, Below.drew b⟩
theorem RS1.mk {b g o : Nat} {hq : Hd} {Aq : Option Addr} {nq cq : Nat} {h0 : Hd} {A0 : Option Addr} {n0 c0 : Nat} {w V : World} (kq : V.heap[b]? = some (xo hq Aq nq cq)) (k0 : At9 V g o h0 A0 n0 c0) (bl : Below w.heap.size w V) : RS1 b g o hq Aq nq cq h0 A0 n0 c0 w V := by
  obtain ⟨xq0, xq1, xq2, xq3, xq4, xq5, xq6, xq7, xq8⟩ := xbox kq
  obtain ⟨x00, x01, x02, x03, x04, x05, x06, x07, x08⟩ := k0
  exact ⟨xq0, xq1, xq2, xq3, xq4, xq5, xq6, xq7, xq8, x00, x01, x02, x03, x04, x05, x06, x07, x08, bl⟩
def RS2 (b g o : Nat) (hq : Hd) (Aq : Option Addr) (nq cq : Nat) (h0 : Hd) (A0 : Option Addr) (n0 c0 : Nat) (h1 : Hd) (A1 : Option Addr) (n1 c1 : Nat) (w w' : World) : Prop := w'.cell? ⟨b, 0, none⟩ = some (.int .i64 hq.kind) ∧ w'.cell? ⟨b, 1, none⟩ = some (.string hq.text) ∧ w'.cell? ⟨b, 2, none⟩ = some (.int .i64 hq.num) ∧ w'.cell? ⟨b, 3, none⟩ = some (.int .i64 hq.pos) ∧ w'.cell? ⟨b, 4, none⟩ = some (.slice Aq nq cq) ∧ w'.cell? ⟨b, 5, none⟩ = some (.int .i64 hq.tk) ∧ w'.cell? ⟨b, 6, none⟩ = some (.string hq.tn) ∧ w'.cell? ⟨b, 7, none⟩ = some (.int .i64 hq.ref) ∧ w'.cell? ⟨b, 8, none⟩ = some (.int .i64 hq.up) ∧ w'.cell? ⟨g, o, none⟩ = some (.int .i64 h0.kind) ∧ w'.cell? ⟨g, o + 1, none⟩ = some (.string h0.text) ∧ w'.cell? ⟨g, o + 2, none⟩ = some (.int .i64 h0.num) ∧ w'.cell? ⟨g, o + 3, none⟩ = some (.int .i64 h0.pos) ∧ w'.cell? ⟨g, o + 4, none⟩ = some (.slice A0 n0 c0) ∧ w'.cell? ⟨g, o + 5, none⟩ = some (.int .i64 h0.tk) ∧ w'.cell? ⟨g, o + 6, none⟩ = some (.string h0.tn) ∧ w'.cell? ⟨g, o + 7, none⟩ = some (.int .i64 h0.ref) ∧ w'.cell? ⟨g, o + 8, none⟩ = some (.int .i64 h0.up) ∧ w'.cell? ⟨g, o + 9, none⟩ = some (.int .i64 h1.kind) ∧ w'.cell? ⟨g, o + 9 + 1, none⟩ = some (.string h1.text) ∧ w'.cell? ⟨g, o + 9 + 2, none⟩ = some (.int .i64 h1.num) ∧ w'.cell? ⟨g, o + 9 + 3, none⟩ = some (.int .i64 h1.pos) ∧ w'.cell? ⟨g, o + 9 + 4, none⟩ = some (.slice A1 n1 c1) ∧ w'.cell? ⟨g, o + 9 + 5, none⟩ = some (.int .i64 h1.tk) ∧ w'.cell? ⟨g, o + 9 + 6, none⟩ = some (.string h1.tn) ∧ w'.cell? ⟨g, o + 9 + 7, none⟩ = some (.int .i64 h1.ref) ∧ w'.cell? ⟨g, o + 9 + 8, none⟩ = some (.int .i64 h1.up) ∧ Below w.heap.size w w'
theorem RS2.keep {b g o : Nat} {hq : Hd} {Aq : Option Addr} {nq cq : Nat} {h0 : Hd} {A0 : Option Addr} {n0 c0 : Nat} {h1 : Hd} {A1 : Option Addr} {n1 c1 : Nat} {w V w' : World} (h : RS2 b g o hq Aq nq cq h0 A0 n0 c0 h1 A1 n1 c1 w V) (hb : Below V.heap.size V w') : w'.cell? ⟨b, 0, none⟩ = some (.int .i64 hq.kind) ∧ w'.cell? ⟨b, 1, none⟩ = some (.string hq.text) ∧ w'.cell? ⟨b, 2, none⟩ = some (.int .i64 hq.num) ∧ w'.cell? ⟨b, 3, none⟩ = some (.int .i64 hq.pos) ∧ w'.cell? ⟨b, 4, none⟩ = some (.slice Aq nq cq) ∧ w'.cell? ⟨b, 5, none⟩ = some (.int .i64 hq.tk) ∧ w'.cell? ⟨b, 6, none⟩ = some (.string hq.tn) ∧ w'.cell? ⟨b, 7, none⟩ = some (.int .i64 hq.ref) ∧ w'.cell? ⟨b, 8, none⟩ = some (.int .i64 hq.up) ∧ w'.cell? ⟨g, o, none⟩ = some (.int .i64 h0.kind) ∧ w'.cell? ⟨g, o + 1, none⟩ = some (.string h0.text) ∧ w'.cell? ⟨g, o + 2, none⟩ = some (.int .i64 h0.num) ∧ w'.cell? ⟨g, o + 3, none⟩ = some (.int .i64 h0.pos) ∧ w'.cell? ⟨g, o + 4, none⟩ = some (.slice A0 n0 c0) ∧ w'.cell? ⟨g, o + 5, none⟩ = some (.int .i64 h0.tk) ∧ w'.cell? ⟨g, o + 6, none⟩ = some (.string h0.tn) ∧ w'.cell? ⟨g, o + 7, none⟩ = some (.int .i64 h0.ref) ∧ w'.cell? ⟨g, o + 8, none⟩ = some (.int .i64 h0.up) ∧ w'.cell? ⟨g, o + 9, none⟩ = some (.int .i64 h1.kind) ∧ w'.cell? ⟨g, o + 9 + 1, none⟩ = some (.string h1.text) ∧ w'.cell? ⟨g, o + 9 + 2, none⟩ = some (.int .i64 h1.num) ∧ w'.cell? ⟨g, o + 9 + 3, none⟩ = some (.int .i64 h1.pos) ∧ w'.cell? ⟨g, o + 9 + 4, none⟩ = some (.slice A1 n1 c1) ∧ w'.cell? ⟨g, o + 9 + 5, none⟩ = some (.int .i64 h1.tk) ∧ w'.cell? ⟨g, o + 9 + 6, none⟩ = some (.string h1.tn) ∧ w'.cell? ⟨g, o + 9 + 7, none⟩ = some (.int .i64 h1.ref) ∧ w'.cell? ⟨g, o + 9 + 8, none⟩ = some (.int .i64 h1.up) ∧ Below w.heap.size w w' := by
  obtain ⟨xq0, xq1, xq2, xq3, xq4, xq5, xq6, xq7, xq8, x00, x01, x02, x03, x04, x05, x06, x07, x08, x10, x11, x12, x13, x14, x15, x16, x17, x18, b⟩ := h
  exact ⟨xcell xq0 hb, xcell xq1 hb, xcell xq2 hb, xcell xq3 hb, xcell xq4 hb, xcell xq5 hb, xcell xq6 hb, xcell xq7 hb, xcell xq8 hb, xcell x00 hb, xcell x01 hb, xcell x02 hb, xcell x03 hb, xcell x04 hb, xcell x05 hb, xcell x06 hb, xcell x07 hb, xcell x08 hb, xcell x10 hb, xcell x11 hb, xcell x12 hb, xcell x13 hb, xcell x14 hb, xcell x15 hb, xcell x16 hb, xcell x17 hb, xcell x18 hb, b.trans (hb.mono b.size)⟩
theorem RS2.start {b g o : Nat} {hq : Hd} {Aq : Option Addr} {nq cq : Nat} {h0 : Hd} {A0 : Option Addr} {n0 c0 : Nat} {h1 : Hd} {A1 : Option Addr} {n1 c1 : Nat} {w V : World} (h : RS2 b g o hq Aq nq cq h0 A0 n0 c0 h1 A1 n1 c1 w V) : V.drew.cell? ⟨b, 0, none⟩ = some (.int .i64 hq.kind) ∧ V.drew.cell? ⟨b, 1, none⟩ = some (.string hq.text) ∧ V.drew.cell? ⟨b, 2, none⟩ = some (.int .i64 hq.num) ∧ V.drew.cell? ⟨b, 3, none⟩ = some (.int .i64 hq.pos) ∧ V.drew.cell? ⟨b, 4, none⟩ = some (.slice Aq nq cq) ∧ V.drew.cell? ⟨b, 5, none⟩ = some (.int .i64 hq.tk) ∧ V.drew.cell? ⟨b, 6, none⟩ = some (.string hq.tn) ∧ V.drew.cell? ⟨b, 7, none⟩ = some (.int .i64 hq.ref) ∧ V.drew.cell? ⟨b, 8, none⟩ = some (.int .i64 hq.up) ∧ V.drew.cell? ⟨g, o, none⟩ = some (.int .i64 h0.kind) ∧ V.drew.cell? ⟨g, o + 1, none⟩ = some (.string h0.text) ∧ V.drew.cell? ⟨g, o + 2, none⟩ = some (.int .i64 h0.num) ∧ V.drew.cell? ⟨g, o + 3, none⟩ = some (.int .i64 h0.pos) ∧ V.drew.cell? ⟨g, o + 4, none⟩ = some (.slice A0 n0 c0) ∧ V.drew.cell? ⟨g, o + 5, none⟩ = some (.int .i64 h0.tk) ∧ V.drew.cell? ⟨g, o + 6, none⟩ = some (.string h0.tn) ∧ V.drew.cell? ⟨g, o + 7, none⟩ = some (.int .i64 h0.ref) ∧ V.drew.cell? ⟨g, o + 8, none⟩ = some (.int .i64 h0.up) ∧ V.drew.cell? ⟨g, o + 9, none⟩ = some (.int .i64 h1.kind) ∧ V.drew.cell? ⟨g, o + 9 + 1, none⟩ = some (.string h1.text) ∧ V.drew.cell? ⟨g, o + 9 + 2, none⟩ = some (.int .i64 h1.num) ∧ V.drew.cell? ⟨g, o + 9 + 3, none⟩ = some (.int .i64 h1.pos) ∧ V.drew.cell? ⟨g, o + 9 + 4, none⟩ = some (.slice A1 n1 c1) ∧ V.drew.cell? ⟨g, o + 9 + 5, none⟩ = some (.int .i64 h1.tk) ∧ V.drew.cell? ⟨g, o + 9 + 6, none⟩ = some (.string h1.tn) ∧ V.drew.cell? ⟨g, o + 9 + 7, none⟩ = some (.int .i64 h1.ref) ∧ V.drew.cell? ⟨g, o + 9 + 8, none⟩ = some (.int .i64 h1.up) ∧ Below w.heap.size w V.drew := by
  obtain ⟨xq0, xq1, xq2, xq3, xq4, xq5, xq6, xq7, xq8, x00, x01, x02, x03, x04, x05, x06, x07, x08, x10, x11, x12, x13, x14, x15, x16, x17, x18, b⟩ := h
  exact ⟨xq0, xq1, xq2, xq3, xq4, xq5, xq6, xq7, xq8, x00, x01, x02, x03, x04, x05, x06, x07, x08, x10, x11, x12, x13, x14, x15, x16, x17, x18, Below.drew b⟩
theorem RS2.mk {b g o : Nat} {hq : Hd} {Aq : Option Addr} {nq cq : Nat} {h0 : Hd} {A0 : Option Addr} {n0 c0 : Nat} {h1 : Hd} {A1 : Option Addr} {n1 c1 : Nat} {w V : World} (kq : V.heap[b]? = some (xo hq Aq nq cq)) (k0 : At9 V g o h0 A0 n0 c0) (k1 : At9 V g (o + 9) h1 A1 n1 c1) (bl : Below w.heap.size w V) : RS2 b g o hq Aq nq cq h0 A0 n0 c0 h1 A1 n1 c1 w V := by
  obtain ⟨xq0, xq1, xq2, xq3, xq4, xq5, xq6, xq7, xq8⟩ := xbox kq
  obtain ⟨x00, x01, x02, x03, x04, x05, x06, x07, x08⟩ := k0
  obtain ⟨x10, x11, x12, x13, x14, x15, x16, x17, x18⟩ := k1
  exact ⟨xq0, xq1, xq2, xq3, xq4, xq5, xq6, xq7, xq8, x00, x01, x02, x03, x04, x05, x06, x07, x08, x10, x11, x12, x13, x14, x15, x16, x17, x18, bl⟩
def RS3 (b g o : Nat) (hq : Hd) (Aq : Option Addr) (nq cq : Nat) (h0 : Hd) (A0 : Option Addr) (n0 c0 : Nat) (h1 : Hd) (A1 : Option Addr) (n1 c1 : Nat) (h2 : Hd) (A2 : Option Addr) (n2 c2 : Nat) (w w' : World) : Prop := w'.cell? ⟨b, 0, none⟩ = some (.int .i64 hq.kind) ∧ w'.cell? ⟨b, 1, none⟩ = some (.string hq.text) ∧ w'.cell? ⟨b, 2, none⟩ = some (.int .i64 hq.num) ∧ w'.cell? ⟨b, 3, none⟩ = some (.int .i64 hq.pos) ∧ w'.cell? ⟨b, 4, none⟩ = some (.slice Aq nq cq) ∧ w'.cell? ⟨b, 5, none⟩ = some (.int .i64 hq.tk) ∧ w'.cell? ⟨b, 6, none⟩ = some (.string hq.tn) ∧ w'.cell? ⟨b, 7, none⟩ = some (.int .i64 hq.ref) ∧ w'.cell? ⟨b, 8, none⟩ = some (.int .i64 hq.up) ∧ w'.cell? ⟨g, o, none⟩ = some (.int .i64 h0.kind) ∧ w'.cell? ⟨g, o + 1, none⟩ = some (.string h0.text) ∧ w'.cell? ⟨g, o + 2, none⟩ = some (.int .i64 h0.num) ∧ w'.cell? ⟨g, o + 3, none⟩ = some (.int .i64 h0.pos) ∧ w'.cell? ⟨g, o + 4, none⟩ = some (.slice A0 n0 c0) ∧ w'.cell? ⟨g, o + 5, none⟩ = some (.int .i64 h0.tk) ∧ w'.cell? ⟨g, o + 6, none⟩ = some (.string h0.tn) ∧ w'.cell? ⟨g, o + 7, none⟩ = some (.int .i64 h0.ref) ∧ w'.cell? ⟨g, o + 8, none⟩ = some (.int .i64 h0.up) ∧ w'.cell? ⟨g, o + 9, none⟩ = some (.int .i64 h1.kind) ∧ w'.cell? ⟨g, o + 9 + 1, none⟩ = some (.string h1.text) ∧ w'.cell? ⟨g, o + 9 + 2, none⟩ = some (.int .i64 h1.num) ∧ w'.cell? ⟨g, o + 9 + 3, none⟩ = some (.int .i64 h1.pos) ∧ w'.cell? ⟨g, o + 9 + 4, none⟩ = some (.slice A1 n1 c1) ∧ w'.cell? ⟨g, o + 9 + 5, none⟩ = some (.int .i64 h1.tk) ∧ w'.cell? ⟨g, o + 9 + 6, none⟩ = some (.string h1.tn) ∧ w'.cell? ⟨g, o + 9 + 7, none⟩ = some (.int .i64 h1.ref) ∧ w'.cell? ⟨g, o + 9 + 8, none⟩ = some (.int .i64 h1.up) ∧ w'.cell? ⟨g, o + 18, none⟩ = some (.int .i64 h2.kind) ∧ w'.cell? ⟨g, o + 18 + 1, none⟩ = some (.string h2.text) ∧ w'.cell? ⟨g, o + 18 + 2, none⟩ = some (.int .i64 h2.num) ∧ w'.cell? ⟨g, o + 18 + 3, none⟩ = some (.int .i64 h2.pos) ∧ w'.cell? ⟨g, o + 18 + 4, none⟩ = some (.slice A2 n2 c2) ∧ w'.cell? ⟨g, o + 18 + 5, none⟩ = some (.int .i64 h2.tk) ∧ w'.cell? ⟨g, o + 18 + 6, none⟩ = some (.string h2.tn) ∧ w'.cell? ⟨g, o + 18 + 7, none⟩ = some (.int .i64 h2.ref) ∧ w'.cell? ⟨g, o + 18 + 8, none⟩ = some (.int .i64 h2.up) ∧ Below w.heap.size w w'
theorem RS3.keep {b g o : Nat} {hq : Hd} {Aq : Option Addr} {nq cq : Nat} {h0 : Hd} {A0 : Option Addr} {n0 c0 : Nat} {h1 : Hd} {A1 : Option Addr} {n1 c1 : Nat} {h2 : Hd} {A2 : Option Addr} {n2 c2 : Nat} {w V w' : World} (h : RS3 b g o hq Aq nq cq h0 A0 n0 c0 h1 A1 n1 c1 h2 A2 n2 c2 w V) (hb : Below V.heap.size V w') : w'.cell? ⟨b, 0, none⟩ = some (.int .i64 hq.kind) ∧ w'.cell? ⟨b, 1, none⟩ = some (.string hq.text) ∧ w'.cell? ⟨b, 2, none⟩ = some (.int .i64 hq.num) ∧ w'.cell? ⟨b, 3, none⟩ = some (.int .i64 hq.pos) ∧ w'.cell? ⟨b, 4, none⟩ = some (.slice Aq nq cq) ∧ w'.cell? ⟨b, 5, none⟩ = some (.int .i64 hq.tk) ∧ w'.cell? ⟨b, 6, none⟩ = some (.string hq.tn) ∧ w'.cell? ⟨b, 7, none⟩ = some (.int .i64 hq.ref) ∧ w'.cell? ⟨b, 8, none⟩ = some (.int .i64 hq.up) ∧ w'.cell? ⟨g, o, none⟩ = some (.int .i64 h0.kind) ∧ w'.cell? ⟨g, o + 1, none⟩ = some (.string h0.text) ∧ w'.cell? ⟨g, o + 2, none⟩ = some (.int .i64 h0.num) ∧ w'.cell? ⟨g, o + 3, none⟩ = some (.int .i64 h0.pos) ∧ w'.cell? ⟨g, o + 4, none⟩ = some (.slice A0 n0 c0) ∧ w'.cell? ⟨g, o + 5, none⟩ = some (.int .i64 h0.tk) ∧ w'.cell? ⟨g, o + 6, none⟩ = some (.string h0.tn) ∧ w'.cell? ⟨g, o + 7, none⟩ = some (.int .i64 h0.ref) ∧ w'.cell? ⟨g, o + 8, none⟩ = some (.int .i64 h0.up) ∧ w'.cell? ⟨g, o + 9, none⟩ = some (.int .i64 h1.kind) ∧ w'.cell? ⟨g, o + 9 + 1, none⟩ = some (.string h1.text) ∧ w'.cell? ⟨g, o + 9 + 2, none⟩ = some (.int .i64 h1.num) ∧ w'.cell? ⟨g, o + 9 + 3, none⟩ = some (.int .i64 h1.pos) ∧ w'.cell? ⟨g, o + 9 + 4, none⟩ = some (.slice A1 n1 c1) ∧ w'.cell? ⟨g, o + 9 + 5, none⟩ = some (.int .i64 h1.tk) ∧ w'.cell? ⟨g, o + 9 + 6, none⟩ = some (.string h1.tn) ∧ w'.cell? ⟨g, o + 9 + 7, none⟩ = some (.int .i64 h1.ref) ∧ w'.cell? ⟨g, o + 9 + 8, none⟩ = some (.int .i64 h1.up) ∧ w'.cell? ⟨g, o + 18, none⟩ = some (.int .i64 h2.kind) ∧ w'.cell? ⟨g, o + 18 + 1, none⟩ = some (.string h2.text) ∧ w'.cell? ⟨g, o + 18 + 2, none⟩ = some (.int .i64 h2.num) ∧ w'.cell? ⟨g, o + 18 + 3, none⟩ = some (.int .i64 h2.pos) ∧ w'.cell? ⟨g, o + 18 + 4, none⟩ = some (.slice A2 n2 c2) ∧ w'.cell? ⟨g, o + 18 + 5, none⟩ = some (.int .i64 h2.tk) ∧ w'.cell? ⟨g, o + 18 + 6, none⟩ = some (.string h2.tn) ∧ w'.cell? ⟨g, o + 18 + 7, none⟩ = some (.int .i64 h2.ref) ∧ w'.cell? ⟨g, o + 18 + 8, none⟩ = some (.int .i64 h2.up) ∧ Below w.heap.size w w' := by
  obtain ⟨xq0, xq1, xq2, xq3, xq4, xq5, xq6, xq7, xq8, x00, x01, x02, x03, x04, x05, x06, x07, x08, x10, x11, x12, x13, x14, x15, x16, x17, x18, x20, x21, x22, x23, x24, x25, x26, x27, x28, b⟩ := h
  exact ⟨xcell xq0 hb, xcell xq1 hb, xcell xq2 hb, xcell xq3 hb, xcell xq4 hb, xcell xq5 hb, xcell xq6 hb, xcell xq7 hb, xcell xq8 hb, xcell x00 hb, xcell x01 hb, xcell x02 hb, xcell x03 hb, xcell x04 hb, xcell x05 hb, xcell x06 hb, xcell x07 hb, xcell x08 hb, xcell x10 hb, xcell x11 hb, xcell x12 hb, xcell x13 hb, xcell x14 hb, xcell x15 hb, xcell x16 hb, xcell x17 hb, xcell x18 hb, xcell x20 hb, xcell x21 hb, xcell x22 hb, xcell x23 hb, xcell x24 hb, xcell x25 hb, xcell x26 hb, xcell x27 hb, xcell x28 hb, b.trans (hb.mono b.size)⟩
theorem RS3.start {b g o : Nat} {hq : Hd} {Aq : Option Addr} {nq cq : Nat} {h0 : Hd} {A0 : Option Addr} {n0 c0 : Nat} {h1 : Hd} {A1 : Option Addr} {n1 c1 : Nat} {h2 : Hd} {A2 : Option Addr} {n2 c2 : Nat} {w V : World} (h : RS3 b g o hq Aq nq cq h0 A0 n0 c0 h1 A1 n1 c1 h2 A2 n2 c2 w V) : V.drew.cell? ⟨b, 0, none⟩ = some (.int .i64 hq.kind) ∧ V.drew.cell? ⟨b, 1, none⟩ = some (.string hq.text) ∧ V.drew.cell? ⟨b, 2, none⟩ = some (.int .i64 hq.num) ∧ V.drew.cell? ⟨b, 3, none⟩ = some (.int .i64 hq.pos) ∧ V.drew.cell? ⟨b, 4, none⟩ = some (.slice Aq nq cq) ∧ V.drew.cell? ⟨b, 5, none⟩ = some (.int .i64 hq.tk) ∧ V.drew.cell? ⟨b, 6, none⟩ = some (.string hq.tn) ∧ V.drew.cell? ⟨b, 7, none⟩ = some (.int .i64 hq.ref) ∧ V.drew.cell? ⟨b, 8, none⟩ = some (.int .i64 hq.up) ∧ V.drew.cell? ⟨g, o, none⟩ = some (.int .i64 h0.kind) ∧ V.drew.cell? ⟨g, o + 1, none⟩ = some (.string h0.text) ∧ V.drew.cell? ⟨g, o + 2, none⟩ = some (.int .i64 h0.num) ∧ V.drew.cell? ⟨g, o + 3, none⟩ = some (.int .i64 h0.pos) ∧ V.drew.cell? ⟨g, o + 4, none⟩ = some (.slice A0 n0 c0) ∧ V.drew.cell? ⟨g, o + 5, none⟩ = some (.int .i64 h0.tk) ∧ V.drew.cell? ⟨g, o + 6, none⟩ = some (.string h0.tn) ∧ V.drew.cell? ⟨g, o + 7, none⟩ = some (.int .i64 h0.ref) ∧ V.drew.cell? ⟨g, o + 8, none⟩ = some (.int .i64 h0.up) ∧ V.drew.cell? ⟨g, o + 9, none⟩ = some (.int .i64 h1.kind) ∧ V.drew.cell? ⟨g, o + 9 + 1, none⟩ = some (.string h1.text) ∧ V.drew.cell? ⟨g, o + 9 + 2, none⟩ = some (.int .i64 h1.num) ∧ V.drew.cell? ⟨g, o + 9 + 3, none⟩ = some (.int .i64 h1.pos) ∧ V.drew.cell? ⟨g, o + 9 + 4, none⟩ = some (.slice A1 n1 c1) ∧ V.drew.cell? ⟨g, o + 9 + 5, none⟩ = some (.int .i64 h1.tk) ∧ V.drew.cell? ⟨g, o + 9 + 6, none⟩ = some (.string h1.tn) ∧ V.drew.cell? ⟨g, o + 9 + 7, none⟩ = some (.int .i64 h1.ref) ∧ V.drew.cell? ⟨g, o + 9 + 8, none⟩ = some (.int .i64 h1.up) ∧ V.drew.cell? ⟨g, o + 18, none⟩ = some (.int .i64 h2.kind) ∧ V.drew.cell? ⟨g, o + 18 + 1, none⟩ = some (.string h2.text) ∧ V.drew.cell? ⟨g, o + 18 + 2, none⟩ = some (.int .i64 h2.num) ∧ V.drew.cell? ⟨g, o + 18 + 3, none⟩ = some (.int .i64 h2.pos) ∧ V.drew.cell? ⟨g, o + 18 + 4, none⟩ = some (.slice A2 n2 c2) ∧ V.drew.cell? ⟨g, o + 18 + 5, none⟩ = some (.int .i64 h2.tk) ∧ V.drew.cell? ⟨g, o + 18 + 6, none⟩ = some (.string h2.tn) ∧ V.drew.cell? ⟨g, o + 18 + 7, none⟩ = some (.int .i64 h2.ref) ∧ V.drew.cell? ⟨g, o + 18 + 8, none⟩ = some (.int .i64 h2.up) ∧ Below w.heap.size w V.drew := by
  obtain ⟨xq0, xq1, xq2, xq3, xq4, xq5, xq6, xq7, xq8, x00, x01, x02, x03, x04, x05, x06, x07, x08, x10, x11, x12, x13, x14, x15, x16, x17, x18, x20, x21, x22, x23, x24, x25, x26, x27, x28, b⟩ := h
  exact ⟨xq0, xq1, xq2, xq3, xq4, xq5, xq6, xq7, xq8, x00, x01, x02, x03, x04, x05, x06, x07, x08, x10, x11, x12, x13, x14, x15, x16, x17, x18, x20, x21, x22, x23, x24, x25, x26, x27, x28, Below.drew b⟩
theorem RS3.mk {b g o : Nat} {hq : Hd} {Aq : Option Addr} {nq cq : Nat} {h0 : Hd} {A0 : Option Addr} {n0 c0 : Nat} {h1 : Hd} {A1 : Option Addr} {n1 c1 : Nat} {h2 : Hd} {A2 : Option Addr} {n2 c2 : Nat} {w V : World} (kq : V.heap[b]? = some (xo hq Aq nq cq)) (k0 : At9 V g o h0 A0 n0 c0) (k1 : At9 V g (o + 9) h1 A1 n1 c1) (k2 : At9 V g (o + 18) h2 A2 n2 c2) (bl : Below w.heap.size w V) : RS3 b g o hq Aq nq cq h0 A0 n0 c0 h1 A1 n1 c1 h2 A2 n2 c2 w V := by
  obtain ⟨xq0, xq1, xq2, xq3, xq4, xq5, xq6, xq7, xq8⟩ := xbox kq
  obtain ⟨x00, x01, x02, x03, x04, x05, x06, x07, x08⟩ := k0
  obtain ⟨x10, x11, x12, x13, x14, x15, x16, x17, x18⟩ := k1
  obtain ⟨x20, x21, x22, x23, x24, x25, x26, x27, x28⟩ := k2
  exact ⟨xq0, xq1, xq2, xq3, xq4, xq5, xq6, xq7, xq8, x00, x01, x02, x03, x04, x05, x06, x07, x08, x10, x11, x12, x13, x14, x15, x16, x17, x18, x20, x21, x22, x23, x24, x25, x26, x27, x28, bl⟩
theorem tabs_snoc (m : Nat) : T.tabs m ++ [9] = T.tabs (m + 1) := by
  unfold T.tabs; rw [List.replicate_succ']
set_option maxRecDepth 100000 in
set_option maxHeartbeats 8000000 in
theorem rtabs_any (m : Nat) (hm : m ≤ 100) (w : World) : Calls Tryz.prog 77 #[.int .i64 (m : Int)] w fun e w' => e = .returned (.string (tx (T.tabs m))) ∧ w = w' := by
  go_enter Tryz.func77, Tryz.ntmps77
  go_wp2
  go_loopw [3, 4] (fun sx ix wr => ∃ (i : Nat) (x : ByteArray), sx = .string x ∧ x.data.toList = T.tabs i ∧ ix = .int .i64 (i : Int) ∧ i ≤ m ∧ wr = w) (fun _ ix _ => m - (intOf ix).toNat)
  case atStart => exact ⟨0, ⟨#[]⟩, rfl, rfl, rfl, Nat.zero_le _, rfl⟩
  case round =>
    obtain ⟨i, x, rfl, hx, rfl, hi, rfl⟩ := hrel
    have HX := Lib.hid hx
    clear hx
    by_cases h : i = m
    · subst h
      go_wp2
      go_ret
      exact ⟨str_fin HX.out, rfl⟩
    · have h1 : (i : Int) < (m : Int) := by omega
      have h2 : ¬ (m : Int) ≤ (i : Int) := by omega
      have hsz : x.size = i := by have e := congrArg List.length HX.out; rw [T.tabs_len] at e; exact e
      have z1 : ¬ 9223372036854775807 < x.size + 1 := by omega
      clear hsz
      go_wp2
      go_roundw
      case rel => exact ⟨i + 1, _, rfl, by rw [← tabs_snoc, ← HX.out]; simp, by go_num, by omega, by trivial⟩
      case measure => simp [intOf]; omega
set_option maxRecDepth 100000 in
set_option maxHeartbeats 8000000 in
theorem rtype_any (h : Hd) (A : Option Addr) (n cap : Nat) (w : World) (hm : h.text.size ≤ 20000) : RT 54 #[nv h A n cap] w (tx (typeS h)) := by
  obtain ⟨kd, t, nu, p, tk, tn, r, u⟩ := h
  have z1 : ¬ 9223372036854775807 < 1 + t.size := by have : t.size ≤ 20000 := hm; omega
  have e1 : (t.data.toList = [99, 104, 97, 110]) ↔ (t.toList = [99, 104, 97, 110]) := by rw [ByteArray.toList_eq]
  have e2 : (t.data.toList = [102, 117, 110, 99]) ↔ (t.toList = [102, 117, 110, 99]) := by rw [ByteArray.toList_eq]
  have HT : Hid (typeS ⟨kd, t, nu, p, tk, tn, r, u⟩ = if kd = 8 then [42] ++ t.data.toList else if t.toList = [99, 104, 97, 110] then [99, 104, 97, 110, 32, 105, 110, 116] else if t.toList = [102, 117, 110, 99] then [102, 117, 110, 99, 40, 41] else t.data.toList) := Lib.hid (by
    unfold typeS
    simp only [e1, e2])
  clear e1 e2 hm
  go_enter Tryz.func54, Tryz.ntmps54
  go_wp2
  all_goals go_ret
  all_goals refine ⟨str_fin ?_, b1 _ _⟩
  all_goals rw [HT.out]
  all_goals simp_all
end Go.Proofs.YticbcnhbpbaocaaGreatDoor

set_option linter.all false
namespace Go.Proofs.YticbcnhbpbaocaaGreatDoor
open Go.RowKit T T.Fo
set_option linter.all false
set_option maxRecDepth 100000 in
set_option maxHeartbeats 8000000 in
theorem roperand_any {d : Int} (h : Hd) (k : Fo) (s : Bs) (P : CX 75 d h k s) (l0 : s.length ≤ 1000000000000) : CX 103 d h k (par (h.kind == 32) s) := by
  intro A cap w hk
  have HC := Lib.hid (P.at (cap := cap) hk)
  obtain ⟨x, hx⟩ : ∃ x, tx s = x := ⟨_, rfl⟩
  have HX : Hid (s = x.data.toList) := Lib.hid (by rw [← hx])
  rw [hx] at HC
  obtain ⟨n, hn⟩ : ∃ n, k.len = n := ⟨_, rfl⟩
  rw [hn] at HC ⊢
  have y0 : x.size ≤ 1000000000000 := by have e := congrArg List.length HX.out; have e2 : x.data.toList.length = x.size := rfl; omega
  have z0 : ¬ 9223372036854775807 < 1 + x.size := by omega
  have z1 : ¬ 9223372036854775807 < 1 + x.size + 1 := by omega
  clear y0 l0
  have HB0 : Hid (Below w.heap.size w (w.alloc (xo h A n cap))) := Lib.hid (b1 w _)
  obtain ⟨a, ha⟩ : ∃ v, (h.kind == 32) = v := ⟨_, rfl⟩
  have HV : Hid (par (h.kind == 32) s = par (a) s) := Lib.hid (by rw [ha])
  clear hk P hx hn
  cases a <;>
  · go_enter Tryz.func103, Tryz.ntmps103
    go_wp2_with (go_at_call 75; (with_reducible refine (HC.out _ HB0.out).mono ?_); rintro e V ⟨rfl, hb⟩; have HB0 := Lib.hid (HB0.out.trans (hb.mono HB0.out.size)); clear hb)
    go_ret
    exact ⟨str_fin (by rw [HV.out, HX.out]; simp [par]), HB0.out⟩
set_option maxRecDepth 100000 in
set_option maxHeartbeats 8000000 in
theorem rbase_any {d : Int} (h : Hd) (k : Fo) (s : Bs) (P : CX 75 d h k s) (l0 : s.length ≤ 1000000000000) : CX 102 d h k (par (h.kind == 32 || h.kind == 31 || h.kind == 33) s) := by
  intro A cap w hk
  have HC := Lib.hid (P.at (cap := cap) hk)
  obtain ⟨x, hx⟩ : ∃ x, tx s = x := ⟨_, rfl⟩
  have HX : Hid (s = x.data.toList) := Lib.hid (by rw [← hx])
  rw [hx] at HC
  obtain ⟨n, hn⟩ : ∃ n, k.len = n := ⟨_, rfl⟩
  rw [hn] at HC ⊢
  have y0 : x.size ≤ 1000000000000 := by have e := congrArg List.length HX.out; have e2 : x.data.toList.length = x.size := rfl; omega
  have z0 : ¬ 9223372036854775807 < 1 + x.size := by omega
  have z1 : ¬ 9223372036854775807 < 1 + x.size + 1 := by omega
  clear y0 l0
  have HB0 : Hid (Below w.heap.size w (w.alloc (xo h A n cap))) := Lib.hid (b1 w _)
  obtain ⟨a, ha⟩ : ∃ v, (h.kind == 32) = v := ⟨_, rfl⟩
  obtain ⟨b, hb⟩ : ∃ v, (h.kind == 31) = v := ⟨_, rfl⟩
  obtain ⟨c, hc⟩ : ∃ v, (h.kind == 33) = v := ⟨_, rfl⟩
  have HV : Hid (par (h.kind == 32 || h.kind == 31 || h.kind == 33) s = par (a || b || c) s) := Lib.hid (by rw [ha, hb, hc])
  clear hk P hx hn
  cases a <;> cases b <;> cases c <;>
  · go_enter Tryz.func102, Tryz.ntmps102
    go_wp2_with (go_at_call 75; (with_reducible refine (HC.out _ HB0.out).mono ?_); rintro e V ⟨rfl, hb⟩; have HB0 := Lib.hid (HB0.out.trans (hb.mono HB0.out.size)); clear hb)
    go_ret
    exact ⟨str_fin (by rw [HV.out, HX.out]; simp [par]), HB0.out⟩
set_option maxRecDepth 100000 in
set_option maxHeartbeats 8000000 in
theorem rx_25 {d : Int} (t : ByteArray) (nu p tk : Int) (tn : ByteArray) (r u : Int) : CX 75 d ⟨25, t, nu, p, tk, tn, r, u⟩ .nil (if nu = 1 then [116, 114, 117, 101] else [102, 97, 108, 115, 101]) := by
  intro A cap w hk
  show RT 75 #[.agg #[.int .i64 25, .string t, .int .i64 nu, .int .i64 p, .slice A 0 cap, .int .i64 tk, .string tn, .int .i64 r, .int .i64 u], .int .i64 d] w _
  clear hk
  by_cases e : nu = 1
  · subst e
    have HB0 : Hid (Below w.heap.size w (w.alloc (xo ⟨25, t, 1, p, tk, tn, r, u⟩ A 0 cap))) := Lib.hid (b1 w _)
    rw [if_pos rfl]
    go_enter Tryz.func75, Tryz.ntmps75
    go_wp2
    go_ret
    exact ⟨str_fin (by simp), HB0.out⟩
  · have e1 : (nu == 1) = false := by simpa using e
    have HB0 : Hid (Below w.heap.size w (w.alloc (xo ⟨25, t, nu, p, tk, tn, r, u⟩ A 0 cap))) := Lib.hid (b1 w _)
    rw [if_neg e]
    go_enter Tryz.func75, Tryz.ntmps75
    go_wp2
    go_ret
    exact ⟨str_fin (by simp), HB0.out⟩
set_option maxRecDepth 100000 in
set_option maxHeartbeats 8000000 in
theorem rx_26 {d : Int} (t : ByteArray) (nu p tk : Int) (tn : ByteArray) (r u : Int)  (lt : t.size ≤ 20000)  : CX 75 d ⟨26, t, nu, p, tk, tn, r, u⟩ .nil ([110, 105, 108]) := by
  intro A cap w hk
  show RT 75 #[.agg #[.int .i64 26, .string t, .int .i64 nu, .int .i64 p, .slice A 0 cap, .int .i64 tk, .string tn, .int .i64 r, .int .i64 u], .int .i64 d] w _
  clear lt
  have HB0 : Hid (Below w.heap.size w (w.alloc (xo ⟨26, t, nu, p, tk, tn, r, u⟩ A 0 cap))) := Lib.hid (b1 w _)
  clear hk
  go_enter Tryz.func75, Tryz.ntmps75
  go_wp2
  all_goals go_ret
  all_goals exact ⟨str_fin (by simp), HB0.out⟩
set_option maxRecDepth 100000 in
set_option maxHeartbeats 8000000 in
theorem rx_27 {d : Int} (t : ByteArray) (nu p tk : Int) (tn : ByteArray) (r u : Int)  (lt : t.size ≤ 20000)  : CX 75 d ⟨27, t, nu, p, tk, tn, r, u⟩ .nil (t.data.toList) := by
  intro A cap w hk
  show RT 75 #[.agg #[.int .i64 27, .string t, .int .i64 nu, .int .i64 p, .slice A 0 cap, .int .i64 tk, .string tn, .int .i64 r, .int .i64 u], .int .i64 d] w _
  clear lt
  have HB0 : Hid (Below w.heap.size w (w.alloc (xo ⟨27, t, nu, p, tk, tn, r, u⟩ A 0 cap))) := Lib.hid (b1 w _)
  clear hk
  go_enter Tryz.func75, Tryz.ntmps75
  go_wp2
  all_goals go_ret
  all_goals exact ⟨str_fin (by simp), HB0.out⟩
set_option maxRecDepth 100000 in
set_option maxHeartbeats 8000000 in
theorem rx_34 {d : Int} (t : ByteArray) (nu p tk : Int) (tn : ByteArray) (r u : Int)  (lt : t.size ≤ 20000)  : CX 75 d ⟨34, t, nu, p, tk, tn, r, u⟩ .nil ([110, 101, 119, 40] ++ t.data.toList ++ [41]) := by
  intro A cap w hk
  show RT 75 #[.agg #[.int .i64 34, .string t, .int .i64 nu, .int .i64 p, .slice A 0 cap, .int .i64 tk, .string tn, .int .i64 r, .int .i64 u], .int .i64 d] w _
  have z0 : ¬ 9223372036854775807 < 4 + t.size := by omega
  have z1 : ¬ 9223372036854775807 < 4 + t.size + 1 := by omega
  clear lt
  have HB0 : Hid (Below w.heap.size w (w.alloc (xo ⟨34, t, nu, p, tk, tn, r, u⟩ A 0 cap))) := Lib.hid (b1 w _)
  clear hk
  go_enter Tryz.func75, Tryz.ntmps75
  go_wp2
  all_goals go_ret
  all_goals exact ⟨str_fin (by simp), HB0.out⟩
set_option maxRecDepth 100000 in
set_option maxHeartbeats 8000000 in
theorem rx_28 {d : Int} (t : ByteArray) (nu p tk : Int) (tn : ByteArray) (r u : Int) (h0 : Hd) (k0 : Fo) (lt : t.size ≤ 20000) (s0 : Bs) (P0 : CX 102 d h0 k0 s0) (l0 : s0.length ≤ 1000000000000) : CX 75 d ⟨28, t, nu, p, tk, tn, r, u⟩ (.cons h0 k0 .nil) (s0 ++ [46] ++ t.data.toList) := by
  intro A cap w hk
  obtain ⟨g, o, A0, c0, rfl, D0, hk0, hg⟩ := kidv1 hk
  have HC0 := Lib.hid (P0.at (cap := c0) hk0)
  obtain ⟨x0, hx0⟩ : ∃ x, tx s0 = x := ⟨_, rfl⟩
  have HX0 : Hid (s0 = x0.data.toList) := Lib.hid (by rw [← hx0])
  rw [hx0] at HC0
  clear hx0
  obtain ⟨n0, hn0⟩ : ∃ n, k0.len = n := ⟨_, rfl⟩
  rw [hn0] at D0 HC0
  show RT 75 #[.agg #[.int .i64 28, .string t, .int .i64 nu, .int .i64 p, .slice (some ⟨g, o, none⟩) 1 cap, .int .i64 tk, .string tn, .int .i64 r, .int .i64 u], .int .i64 d] w _
  have hgn : ¬ g = w.heap.size := by omega
  have hg1 : g < w.heap.size + 1 := by omega
  have y0 : x0.size ≤ 1000000000000 := by have e := congrArg List.length HX0.out; have e2 : x0.data.toList.length = x0.size := rfl; omega
  have z0 : ¬ 9223372036854775807 < x0.size + 1 := by omega
  have z1 : ¬ 9223372036854775807 < x0.size + 1 + t.size := by omega
  clear lt l0 y0
  have HB0 : Hid (Below w.heap.size w (w.alloc (xo ⟨28, t, nu, p, tk, tn, r, u⟩ (some ⟨g, o, none⟩) 1 cap))) := Lib.hid (b1 w _)
  have HS := Lib.hid (RS1.mk (xnb w ⟨28, t, nu, p, tk, tn, r, u⟩ (some ⟨g, o, none⟩) 1 cap) (x9 _ D0 hg) (b1 w (xo ⟨28, t, nu, p, tk, tn, r, u⟩ (some ⟨g, o, none⟩) 1 cap)))
  obtain ⟨d00, d01, d02, d03, d04, d05, d06, d07, d08⟩ := D0
  clear hk hk0 hn0 P0
  go_enter Tryz.func75, Tryz.ntmps75
  go_wp2_with fail
  go_region_held3 (fun w' => w'.cell? ⟨w.heap.size, 0, none⟩ = some (.int .i64 28) ∧ w'.cell? ⟨w.heap.size, 1, none⟩ = some (.string t) ∧ w'.cell? ⟨w.heap.size, 2, none⟩ = some (.int .i64 nu) ∧ w'.cell? ⟨w.heap.size, 3, none⟩ = some (.int .i64 p) ∧ w'.cell? ⟨w.heap.size, 4, none⟩ = some (.slice (some ⟨g, o, none⟩) 1 cap) ∧ w'.cell? ⟨w.heap.size, 5, none⟩ = some (.int .i64 tk) ∧ w'.cell? ⟨w.heap.size, 6, none⟩ = some (.string tn) ∧ w'.cell? ⟨w.heap.size, 7, none⟩ = some (.int .i64 r) ∧ w'.cell? ⟨w.heap.size, 8, none⟩ = some (.int .i64 u) ∧ w'.cell? ⟨g, o, none⟩ = some (.int .i64 h0.kind) ∧ w'.cell? ⟨g, o + 1, none⟩ = some (.string h0.text) ∧ w'.cell? ⟨g, o + 2, none⟩ = some (.int .i64 h0.num) ∧ w'.cell? ⟨g, o + 3, none⟩ = some (.int .i64 h0.pos) ∧ w'.cell? ⟨g, o + 4, none⟩ = some (.slice A0 n0 c0) ∧ w'.cell? ⟨g, o + 5, none⟩ = some (.int .i64 h0.tk) ∧ w'.cell? ⟨g, o + 6, none⟩ = some (.string h0.tn) ∧ w'.cell? ⟨g, o + 7, none⟩ = some (.int .i64 h0.ref) ∧ w'.cell? ⟨g, o + 8, none⟩ = some (.int .i64 h0.up) ∧ Below w.heap.size w w')
    (first | exact HS.out.start | exact RS1.keep (hq := ⟨28, t, nu, p, tk, tn, r, u⟩) (Aq := (some ⟨g, o, none⟩)) (nq := 1) (cq := cap) (by assumption) hb)
    (first | (go_at_call 102; (with_reducible refine (HC0.out _ ?_).mono ?_); (go_split_ands; assumption); rintro e w' ⟨rfl, hb⟩))
  all_goals
    have HBE : Hid (Below w.heap.size w w') := Lib.hid (by go_split_ands; assumption)
    go_wp2
    go_ret
    exact ⟨str_fin (by rw [HX0.out] <;> simp), HBE.out⟩
set_option maxRecDepth 100000 in
set_option maxHeartbeats 8000000 in
theorem rx_31 {d : Int} (t : ByteArray) (nu p tk : Int) (tn : ByteArray) (r u : Int) (h0 : Hd) (k0 : Fo) (lt : t.size ≤ 20000) (s0 : Bs) (P0 : CX 103 d h0 k0 s0) (l0 : s0.length ≤ 1000000000000) : CX 75 d ⟨31, t, nu, p, tk, tn, r, u⟩ (.cons h0 k0 .nil) (t.data.toList ++ s0) := by
  intro A cap w hk
  obtain ⟨g, o, A0, c0, rfl, D0, hk0, hg⟩ := kidv1 hk
  have HC0 := Lib.hid (P0.at (cap := c0) hk0)
  obtain ⟨x0, hx0⟩ : ∃ x, tx s0 = x := ⟨_, rfl⟩
  have HX0 : Hid (s0 = x0.data.toList) := Lib.hid (by rw [← hx0])
  rw [hx0] at HC0
  clear hx0
  obtain ⟨n0, hn0⟩ : ∃ n, k0.len = n := ⟨_, rfl⟩
  rw [hn0] at D0 HC0
  show RT 75 #[.agg #[.int .i64 31, .string t, .int .i64 nu, .int .i64 p, .slice (some ⟨g, o, none⟩) 1 cap, .int .i64 tk, .string tn, .int .i64 r, .int .i64 u], .int .i64 d] w _
  have hgn : ¬ g = w.heap.size := by omega
  have hg1 : g < w.heap.size + 1 := by omega
  have y0 : x0.size ≤ 1000000000000 := by have e := congrArg List.length HX0.out; have e2 : x0.data.toList.length = x0.size := rfl; omega
  have z0 : ¬ 9223372036854775807 < t.size + x0.size := by omega
  clear lt l0 y0
  have HB0 : Hid (Below w.heap.size w (w.alloc (xo ⟨31, t, nu, p, tk, tn, r, u⟩ (some ⟨g, o, none⟩) 1 cap))) := Lib.hid (b1 w _)
  have HS := Lib.hid (RS1.mk (xnb w ⟨31, t, nu, p, tk, tn, r, u⟩ (some ⟨g, o, none⟩) 1 cap) (x9 _ D0 hg) (b1 w (xo ⟨31, t, nu, p, tk, tn, r, u⟩ (some ⟨g, o, none⟩) 1 cap)))
  obtain ⟨d00, d01, d02, d03, d04, d05, d06, d07, d08⟩ := D0
  clear hk hk0 hn0 P0
  go_enter Tryz.func75, Tryz.ntmps75
  go_wp2_with fail
  go_region_held3 (fun w' => w'.cell? ⟨w.heap.size, 0, none⟩ = some (.int .i64 31) ∧ w'.cell? ⟨w.heap.size, 1, none⟩ = some (.string t) ∧ w'.cell? ⟨w.heap.size, 2, none⟩ = some (.int .i64 nu) ∧ w'.cell? ⟨w.heap.size, 3, none⟩ = some (.int .i64 p) ∧ w'.cell? ⟨w.heap.size, 4, none⟩ = some (.slice (some ⟨g, o, none⟩) 1 cap) ∧ w'.cell? ⟨w.heap.size, 5, none⟩ = some (.int .i64 tk) ∧ w'.cell? ⟨w.heap.size, 6, none⟩ = some (.string tn) ∧ w'.cell? ⟨w.heap.size, 7, none⟩ = some (.int .i64 r) ∧ w'.cell? ⟨w.heap.size, 8, none⟩ = some (.int .i64 u) ∧ w'.cell? ⟨g, o, none⟩ = some (.int .i64 h0.kind) ∧ w'.cell? ⟨g, o + 1, none⟩ = some (.string h0.text) ∧ w'.cell? ⟨g, o + 2, none⟩ = some (.int .i64 h0.num) ∧ w'.cell? ⟨g, o + 3, none⟩ = some (.int .i64 h0.pos) ∧ w'.cell? ⟨g, o + 4, none⟩ = some (.slice A0 n0 c0) ∧ w'.cell? ⟨g, o + 5, none⟩ = some (.int .i64 h0.tk) ∧ w'.cell? ⟨g, o + 6, none⟩ = some (.string h0.tn) ∧ w'.cell? ⟨g, o + 7, none⟩ = some (.int .i64 h0.ref) ∧ w'.cell? ⟨g, o + 8, none⟩ = some (.int .i64 h0.up) ∧ Below w.heap.size w w')
    (first | exact HS.out.start | exact RS1.keep (hq := ⟨31, t, nu, p, tk, tn, r, u⟩) (Aq := (some ⟨g, o, none⟩)) (nq := 1) (cq := cap) (by assumption) hb)
    (first | (go_at_call 103; (with_reducible refine (HC0.out _ ?_).mono ?_); (go_split_ands; assumption); rintro e w' ⟨rfl, hb⟩))
  all_goals
    have HBE : Hid (Below w.heap.size w w') := Lib.hid (by go_split_ands; assumption)
    go_wp2
    go_ret
    exact ⟨str_fin (by rw [HX0.out] <;> simp), HBE.out⟩
set_option maxRecDepth 100000 in
set_option maxHeartbeats 8000000 in
theorem rx_33 {d : Int} (t : ByteArray) (nu p tk : Int) (tn : ByteArray) (r u : Int) (h0 : Hd) (k0 : Fo) (lt : t.size ≤ 20000) (s0 : Bs) (P0 : CX 103 d h0 k0 s0) (l0 : s0.length ≤ 1000000000000) : CX 75 d ⟨33, t, nu, p, tk, tn, r, u⟩ (.cons h0 k0 .nil) ([60, 45] ++ s0) := by
  intro A cap w hk
  obtain ⟨g, o, A0, c0, rfl, D0, hk0, hg⟩ := kidv1 hk
  have HC0 := Lib.hid (P0.at (cap := c0) hk0)
  obtain ⟨x0, hx0⟩ : ∃ x, tx s0 = x := ⟨_, rfl⟩
  have HX0 : Hid (s0 = x0.data.toList) := Lib.hid (by rw [← hx0])
  rw [hx0] at HC0
  clear hx0
  obtain ⟨n0, hn0⟩ : ∃ n, k0.len = n := ⟨_, rfl⟩
  rw [hn0] at D0 HC0
  show RT 75 #[.agg #[.int .i64 33, .string t, .int .i64 nu, .int .i64 p, .slice (some ⟨g, o, none⟩) 1 cap, .int .i64 tk, .string tn, .int .i64 r, .int .i64 u], .int .i64 d] w _
  have hgn : ¬ g = w.heap.size := by omega
  have hg1 : g < w.heap.size + 1 := by omega
  have y0 : x0.size ≤ 1000000000000 := by have e := congrArg List.length HX0.out; have e2 : x0.data.toList.length = x0.size := rfl; omega
  have z0 : ¬ 9223372036854775807 < 2 + x0.size := by omega
  clear lt l0 y0
  have HB0 : Hid (Below w.heap.size w (w.alloc (xo ⟨33, t, nu, p, tk, tn, r, u⟩ (some ⟨g, o, none⟩) 1 cap))) := Lib.hid (b1 w _)
  obtain ⟨d00, d01, d02, d03, d04, d05, d06, d07, d08⟩ := D0
  clear hk hk0 hn0 P0
  go_enter Tryz.func75, Tryz.ntmps75
  go_wp2_with (first | (go_at_call 103; (with_reducible refine (HC0.out _ HB0.out).mono ?_); rintro e V ⟨rfl, hb⟩; have HB0 := Lib.hid (HB0.out.trans (hb.mono HB0.out.size)); clear hb))
  all_goals go_ret
  all_goals exact ⟨str_fin (by rw [HX0.out] <;> simp), HB0.out⟩
set_option maxRecDepth 100000 in
set_option maxHeartbeats 8000000 in
theorem rx_35 {d : Int} (t : ByteArray) (nu p tk : Int) (tn : ByteArray) (r u : Int) (h0 : Hd) (k0 : Fo) (lt : t.size ≤ 20000) (s0 : Bs) (P0 : CX 75 d h0 k0 s0) (l0 : s0.length ≤ 1000000000000) : CX 75 d ⟨35, t, nu, p, tk, tn, r, u⟩ (.cons h0 k0 .nil) ([109, 97, 107, 101, 40, 91, 93, 105, 110, 116, 44, 32] ++ s0 ++ [41]) := by
  intro A cap w hk
  obtain ⟨g, o, A0, c0, rfl, D0, hk0, hg⟩ := kidv1 hk
  have HC0 := Lib.hid (P0.at (cap := c0) hk0)
  obtain ⟨x0, hx0⟩ : ∃ x, tx s0 = x := ⟨_, rfl⟩
  have HX0 : Hid (s0 = x0.data.toList) := Lib.hid (by rw [← hx0])
  rw [hx0] at HC0
  clear hx0
  obtain ⟨n0, hn0⟩ : ∃ n, k0.len = n := ⟨_, rfl⟩
  rw [hn0] at D0 HC0
  show RT 75 #[.agg #[.int .i64 35, .string t, .int .i64 nu, .int .i64 p, .slice (some ⟨g, o, none⟩) 1 cap, .int .i64 tk, .string tn, .int .i64 r, .int .i64 u], .int .i64 d] w _
  have hgn : ¬ g = w.heap.size := by omega
  have hg1 : g < w.heap.size + 1 := by omega
  have y0 : x0.size ≤ 1000000000000 := by have e := congrArg List.length HX0.out; have e2 : x0.data.toList.length = x0.size := rfl; omega
  have z0 : ¬ 9223372036854775807 < 12 + x0.size := by omega
  have z1 : ¬ 9223372036854775807 < 12 + x0.size + 1 := by omega
  clear lt l0 y0
  have HB0 : Hid (Below w.heap.size w (w.alloc (xo ⟨35, t, nu, p, tk, tn, r, u⟩ (some ⟨g, o, none⟩) 1 cap))) := Lib.hid (b1 w _)
  obtain ⟨d00, d01, d02, d03, d04, d05, d06, d07, d08⟩ := D0
  clear hk hk0 hn0 P0
  go_enter Tryz.func75, Tryz.ntmps75
  go_wp2_with (first | (go_at_call 75; (with_reducible refine (HC0.out _ HB0.out).mono ?_); rintro e V ⟨rfl, hb⟩; have HB0 := Lib.hid (HB0.out.trans (hb.mono HB0.out.size)); clear hb))
  all_goals go_ret
  all_goals exact ⟨str_fin (by rw [HX0.out] <;> simp), HB0.out⟩
set_option maxRecDepth 100000 in
set_option maxHeartbeats 8000000 in
theorem rx_36 {d : Int} (t : ByteArray) (nu p tk : Int) (tn : ByteArray) (r u : Int) (h0 : Hd) (k0 : Fo) (lt : t.size ≤ 20000) (s0 : Bs) (P0 : CX 75 d h0 k0 s0) (l0 : s0.length ≤ 1000000000000) : CX 75 d ⟨36, t, nu, p, tk, tn, r, u⟩ (.cons h0 k0 .nil) ([109, 97, 107, 101, 40, 99, 104, 97, 110, 32, 105, 110, 116, 44, 32] ++ s0 ++ [41]) := by
  intro A cap w hk
  obtain ⟨g, o, A0, c0, rfl, D0, hk0, hg⟩ := kidv1 hk
  have HC0 := Lib.hid (P0.at (cap := c0) hk0)
  obtain ⟨x0, hx0⟩ : ∃ x, tx s0 = x := ⟨_, rfl⟩
  have HX0 : Hid (s0 = x0.data.toList) := Lib.hid (by rw [← hx0])
  rw [hx0] at HC0
  clear hx0
  obtain ⟨n0, hn0⟩ : ∃ n, k0.len = n := ⟨_, rfl⟩
  rw [hn0] at D0 HC0
  show RT 75 #[.agg #[.int .i64 36, .string t, .int .i64 nu, .int .i64 p, .slice (some ⟨g, o, none⟩) 1 cap, .int .i64 tk, .string tn, .int .i64 r, .int .i64 u], .int .i64 d] w _
  have hgn : ¬ g = w.heap.size := by omega
  have hg1 : g < w.heap.size + 1 := by omega
  have y0 : x0.size ≤ 1000000000000 := by have e := congrArg List.length HX0.out; have e2 : x0.data.toList.length = x0.size := rfl; omega
  have z0 : ¬ 9223372036854775807 < 15 + x0.size := by omega
  have z1 : ¬ 9223372036854775807 < 15 + x0.size + 1 := by omega
  clear lt l0 y0
  have HB0 : Hid (Below w.heap.size w (w.alloc (xo ⟨36, t, nu, p, tk, tn, r, u⟩ (some ⟨g, o, none⟩) 1 cap))) := Lib.hid (b1 w _)
  obtain ⟨d00, d01, d02, d03, d04, d05, d06, d07, d08⟩ := D0
  clear hk hk0 hn0 P0
  go_enter Tryz.func75, Tryz.ntmps75
  go_wp2_with (first | (go_at_call 75; (with_reducible refine (HC0.out _ HB0.out).mono ?_); rintro e V ⟨rfl, hb⟩; have HB0 := Lib.hid (HB0.out.trans (hb.mono HB0.out.size)); clear hb))
  all_goals go_ret
  all_goals exact ⟨str_fin (by rw [HX0.out] <;> simp), HB0.out⟩
set_option maxRecDepth 100000 in
set_option maxHeartbeats 8000000 in
theorem rx_37 {d : Int} (t : ByteArray) (nu p tk : Int) (tn : ByteArray) (r u : Int) (h0 : Hd) (k0 : Fo) (lt : t.size ≤ 20000) (s0 : Bs) (P0 : CX 75 d h0 k0 s0) (l0 : s0.length ≤ 1000000000000) : CX 75 d ⟨37, t, nu, p, tk, tn, r, u⟩ (.cons h0 k0 .nil) ([108, 101, 110, 40] ++ s0 ++ [41]) := by
  intro A cap w hk
  obtain ⟨g, o, A0, c0, rfl, D0, hk0, hg⟩ := kidv1 hk
  have HC0 := Lib.hid (P0.at (cap := c0) hk0)
  obtain ⟨x0, hx0⟩ : ∃ x, tx s0 = x := ⟨_, rfl⟩
  have HX0 : Hid (s0 = x0.data.toList) := Lib.hid (by rw [← hx0])
  rw [hx0] at HC0
  clear hx0
  obtain ⟨n0, hn0⟩ : ∃ n, k0.len = n := ⟨_, rfl⟩
  rw [hn0] at D0 HC0
  show RT 75 #[.agg #[.int .i64 37, .string t, .int .i64 nu, .int .i64 p, .slice (some ⟨g, o, none⟩) 1 cap, .int .i64 tk, .string tn, .int .i64 r, .int .i64 u], .int .i64 d] w _
  have hgn : ¬ g = w.heap.size := by omega
  have hg1 : g < w.heap.size + 1 := by omega
  have y0 : x0.size ≤ 1000000000000 := by have e := congrArg List.length HX0.out; have e2 : x0.data.toList.length = x0.size := rfl; omega
  have z0 : ¬ 9223372036854775807 < 4 + x0.size := by omega
  have z1 : ¬ 9223372036854775807 < 4 + x0.size + 1 := by omega
  clear lt l0 y0
  have HB0 : Hid (Below w.heap.size w (w.alloc (xo ⟨37, t, nu, p, tk, tn, r, u⟩ (some ⟨g, o, none⟩) 1 cap))) := Lib.hid (b1 w _)
  obtain ⟨d00, d01, d02, d03, d04, d05, d06, d07, d08⟩ := D0
  clear hk hk0 hn0 P0
  go_enter Tryz.func75, Tryz.ntmps75
  go_wp2_with (first | (go_at_call 75; (with_reducible refine (HC0.out _ HB0.out).mono ?_); rintro e V ⟨rfl, hb⟩; have HB0 := Lib.hid (HB0.out.trans (hb.mono HB0.out.size)); clear hb))
  all_goals go_ret
  all_goals exact ⟨str_fin (by rw [HX0.out] <;> simp), HB0.out⟩
set_option maxRecDepth 100000 in
set_option maxHeartbeats 8000000 in
theorem rx_38 {d : Int} (t : ByteArray) (nu p tk : Int) (tn : ByteArray) (r u : Int) (h0 : Hd) (k0 : Fo) (lt : t.size ≤ 20000) (s0 : Bs) (P0 : CX 55 d h0 k0 s0) (l0 : s0.length ≤ 1000000000000) : CX 75 d ⟨38, t, nu, p, tk, tn, r, u⟩ (.cons h0 k0 .nil) ([102, 117, 110, 99, 40, 41, 32] ++ s0) := by
  intro A cap w hk
  obtain ⟨g, o, A0, c0, rfl, D0, hk0, hg⟩ := kidv1 hk
  have HC0 := Lib.hid (P0.at (cap := c0) hk0)
  obtain ⟨x0, hx0⟩ : ∃ x, tx s0 = x := ⟨_, rfl⟩
  have HX0 : Hid (s0 = x0.data.toList) := Lib.hid (by rw [← hx0])
  rw [hx0] at HC0
  clear hx0
  obtain ⟨n0, hn0⟩ : ∃ n, k0.len = n := ⟨_, rfl⟩
  rw [hn0] at D0 HC0
  show RT 75 #[.agg #[.int .i64 38, .string t, .int .i64 nu, .int .i64 p, .slice (some ⟨g, o, none⟩) 1 cap, .int .i64 tk, .string tn, .int .i64 r, .int .i64 u], .int .i64 d] w _
  have hgn : ¬ g = w.heap.size := by omega
  have hg1 : g < w.heap.size + 1 := by omega
  have y0 : x0.size ≤ 1000000000000 := by have e := congrArg List.length HX0.out; have e2 : x0.data.toList.length = x0.size := rfl; omega
  have z0 : ¬ 9223372036854775807 < 7 + x0.size := by omega
  clear lt l0 y0
  have HB0 : Hid (Below w.heap.size w (w.alloc (xo ⟨38, t, nu, p, tk, tn, r, u⟩ (some ⟨g, o, none⟩) 1 cap))) := Lib.hid (b1 w _)
  obtain ⟨d00, d01, d02, d03, d04, d05, d06, d07, d08⟩ := D0
  clear hk hk0 hn0 P0
  go_enter Tryz.func75, Tryz.ntmps75
  go_wp2_with (first | (go_at_call 55; (with_reducible refine (HC0.out _ HB0.out).mono ?_); rintro e V ⟨rfl, hb⟩; have HB0 := Lib.hid (HB0.out.trans (hb.mono HB0.out.size)); clear hb))
  all_goals go_ret
  all_goals exact ⟨str_fin (by rw [HX0.out] <;> simp), HB0.out⟩
end Go.Proofs.YticbcnhbpbaocaaGreatDoor

set_option linter.all false
namespace Go.Proofs.YticbcnhbpbaocaaGreatDoor
open Go.RowKit T T.Fo
set_option linter.all false
set_option maxRecDepth 100000 in
set_option maxHeartbeats 8000000 in
theorem rx_29 {d : Int} (t : ByteArray) (nu p tk : Int) (tn : ByteArray) (r u : Int) (h0 : Hd) (k0 : Fo) (h1 : Hd) (k1 : Fo) (lt : t.size ≤ 20000) (s0 : Bs) (P0 : CX 102 d h0 k0 s0) (l0 : s0.length ≤ 1000000000000) (s1 : Bs) (P1 : CX 75 d h1 k1 s1) (l1 : s1.length ≤ 1000000000000) : CX 75 d ⟨29, t, nu, p, tk, tn, r, u⟩ (.cons h0 k0 (.cons h1 k1 .nil)) (s0 ++ [91] ++ s1 ++ [93]) := by
  intro A cap w hk
  obtain ⟨g, o, A0, c0, A1, c1, rfl, D0, hk0, D1, hk1, hg⟩ := kid2 hk
  have HC0 := Lib.hid (P0.at (cap := c0) hk0)
  obtain ⟨x0, hx0⟩ : ∃ x, tx s0 = x := ⟨_, rfl⟩
  have HX0 : Hid (s0 = x0.data.toList) := Lib.hid (by rw [← hx0])
  rw [hx0] at HC0
  clear hx0
  have HC1 := Lib.hid (P1.at (cap := c1) hk1)
  obtain ⟨x1, hx1⟩ : ∃ x, tx s1 = x := ⟨_, rfl⟩
  have HX1 : Hid (s1 = x1.data.toList) := Lib.hid (by rw [← hx1])
  rw [hx1] at HC1
  clear hx1
  obtain ⟨n0, hn0⟩ : ∃ n, k0.len = n := ⟨_, rfl⟩
  rw [hn0] at D0 HC0
  obtain ⟨n1, hn1⟩ : ∃ n, k1.len = n := ⟨_, rfl⟩
  rw [hn1] at D1 HC1
  show RT 75 #[.agg #[.int .i64 29, .string t, .int .i64 nu, .int .i64 p, .slice (some ⟨g, o, none⟩) 2 cap, .int .i64 tk, .string tn, .int .i64 r, .int .i64 u], .int .i64 d] w _
  have hgn : ¬ g = w.heap.size := by omega
  have hg1 : g < w.heap.size + 1 := by omega
  have y0 : x0.size ≤ 1000000000000 := by have e := congrArg List.length HX0.out; have e2 : x0.data.toList.length = x0.size := rfl; omega
  have y1 : x1.size ≤ 1000000000000 := by have e := congrArg List.length HX1.out; have e2 : x1.data.toList.length = x1.size := rfl; omega
  have z0 : ¬ 9223372036854775807 < x0.size + 1 := by omega
  have z1 : ¬ 9223372036854775807 < x0.size + 1 + x1.size := by omega
  have z2 : ¬ 9223372036854775807 < x0.size + 1 + x1.size + 1 := by omega
  clear lt l0 y0 l1 y1
  have HB0 : Hid (Below w.heap.size w (w.alloc (xo ⟨29, t, nu, p, tk, tn, r, u⟩ (some ⟨g, o, none⟩) 2 cap))) := Lib.hid (b1 w _)
  have HS := Lib.hid (RS2.mk (xnb w ⟨29, t, nu, p, tk, tn, r, u⟩ (some ⟨g, o, none⟩) 2 cap) (x9 _ D0 hg) (x9 _ D1 hg) (b1 w (xo ⟨29, t, nu, p, tk, tn, r, u⟩ (some ⟨g, o, none⟩) 2 cap)))
  obtain ⟨d00, d01, d02, d03, d04, d05, d06, d07, d08⟩ := D0
  obtain ⟨d10, d11, d12, d13, d14, d15, d16, d17, d18⟩ := D1
  clear hk hk0 hk1 hn0 hn1 P0 P1
  go_enter Tryz.func75, Tryz.ntmps75
  go_wp2_with fail
  go_region_held3 (fun w' => w'.cell? ⟨w.heap.size, 0, none⟩ = some (.int .i64 29) ∧ w'.cell? ⟨w.heap.size, 1, none⟩ = some (.string t) ∧ w'.cell? ⟨w.heap.size, 2, none⟩ = some (.int .i64 nu) ∧ w'.cell? ⟨w.heap.size, 3, none⟩ = some (.int .i64 p) ∧ w'.cell? ⟨w.heap.size, 4, none⟩ = some (.slice (some ⟨g, o, none⟩) 2 cap) ∧ w'.cell? ⟨w.heap.size, 5, none⟩ = some (.int .i64 tk) ∧ w'.cell? ⟨w.heap.size, 6, none⟩ = some (.string tn) ∧ w'.cell? ⟨w.heap.size, 7, none⟩ = some (.int .i64 r) ∧ w'.cell? ⟨w.heap.size, 8, none⟩ = some (.int .i64 u) ∧ w'.cell? ⟨g, o, none⟩ = some (.int .i64 h0.kind) ∧ w'.cell? ⟨g, o + 1, none⟩ = some (.string h0.text) ∧ w'.cell? ⟨g, o + 2, none⟩ = some (.int .i64 h0.num) ∧ w'.cell? ⟨g, o + 3, none⟩ = some (.int .i64 h0.pos) ∧ w'.cell? ⟨g, o + 4, none⟩ = some (.slice A0 n0 c0) ∧ w'.cell? ⟨g, o + 5, none⟩ = some (.int .i64 h0.tk) ∧ w'.cell? ⟨g, o + 6, none⟩ = some (.string h0.tn) ∧ w'.cell? ⟨g, o + 7, none⟩ = some (.int .i64 h0.ref) ∧ w'.cell? ⟨g, o + 8, none⟩ = some (.int .i64 h0.up) ∧ w'.cell? ⟨g, o + 9, none⟩ = some (.int .i64 h1.kind) ∧ w'.cell? ⟨g, o + 9 + 1, none⟩ = some (.string h1.text) ∧ w'.cell? ⟨g, o + 9 + 2, none⟩ = some (.int .i64 h1.num) ∧ w'.cell? ⟨g, o + 9 + 3, none⟩ = some (.int .i64 h1.pos) ∧ w'.cell? ⟨g, o + 9 + 4, none⟩ = some (.slice A1 n1 c1) ∧ w'.cell? ⟨g, o + 9 + 5, none⟩ = some (.int .i64 h1.tk) ∧ w'.cell? ⟨g, o + 9 + 6, none⟩ = some (.string h1.tn) ∧ w'.cell? ⟨g, o + 9 + 7, none⟩ = some (.int .i64 h1.ref) ∧ w'.cell? ⟨g, o + 9 + 8, none⟩ = some (.int .i64 h1.up) ∧ Below w.heap.size w w')
    (first | exact HS.out.start | exact RS2.keep (hq := ⟨29, t, nu, p, tk, tn, r, u⟩) (Aq := (some ⟨g, o, none⟩)) (nq := 2) (cq := cap) (by assumption) hb)
    (first | (go_at_call 102; (with_reducible refine (HC0.out _ ?_).mono ?_); (go_split_ands; assumption); rintro e w' ⟨rfl, hb⟩) | (go_at_call 75; (with_reducible refine (HC1.out _ ?_).mono ?_); (go_split_ands; assumption); rintro e w' ⟨rfl, hb⟩))
  all_goals
    have HBE : Hid (Below w.heap.size w w') := Lib.hid (by go_split_ands; assumption)
    go_wp2
    go_ret
    exact ⟨str_fin (by rw [HX0.out, HX1.out] <;> simp), HBE.out⟩
set_option maxRecDepth 100000 in
set_option maxHeartbeats 8000000 in
theorem rx_32 {d : Int} (t : ByteArray) (nu p tk : Int) (tn : ByteArray) (r u : Int) (h0 : Hd) (k0 : Fo) (h1 : Hd) (k1 : Fo) (lt : t.size ≤ 20000) (s0 : Bs) (P0 : CX 103 d h0 k0 s0) (l0 : s0.length ≤ 1000000000000) (s1 : Bs) (P1 : CX 103 d h1 k1 s1) (l1 : s1.length ≤ 1000000000000) : CX 75 d ⟨32, t, nu, p, tk, tn, r, u⟩ (.cons h0 k0 (.cons h1 k1 .nil)) (s0 ++ [32] ++ t.data.toList ++ [32] ++ s1) := by
  intro A cap w hk
  obtain ⟨g, o, A0, c0, A1, c1, rfl, D0, hk0, D1, hk1, hg⟩ := kid2 hk
  have HC0 := Lib.hid (P0.at (cap := c0) hk0)
  obtain ⟨x0, hx0⟩ : ∃ x, tx s0 = x := ⟨_, rfl⟩
  have HX0 : Hid (s0 = x0.data.toList) := Lib.hid (by rw [← hx0])
  rw [hx0] at HC0
  clear hx0
  have HC1 := Lib.hid (P1.at (cap := c1) hk1)
  obtain ⟨x1, hx1⟩ : ∃ x, tx s1 = x := ⟨_, rfl⟩
  have HX1 : Hid (s1 = x1.data.toList) := Lib.hid (by rw [← hx1])
  rw [hx1] at HC1
  clear hx1
  obtain ⟨n0, hn0⟩ : ∃ n, k0.len = n := ⟨_, rfl⟩
  rw [hn0] at D0 HC0
  obtain ⟨n1, hn1⟩ : ∃ n, k1.len = n := ⟨_, rfl⟩
  rw [hn1] at D1 HC1
  show RT 75 #[.agg #[.int .i64 32, .string t, .int .i64 nu, .int .i64 p, .slice (some ⟨g, o, none⟩) 2 cap, .int .i64 tk, .string tn, .int .i64 r, .int .i64 u], .int .i64 d] w _
  have hgn : ¬ g = w.heap.size := by omega
  have hg1 : g < w.heap.size + 1 := by omega
  have y0 : x0.size ≤ 1000000000000 := by have e := congrArg List.length HX0.out; have e2 : x0.data.toList.length = x0.size := rfl; omega
  have y1 : x1.size ≤ 1000000000000 := by have e := congrArg List.length HX1.out; have e2 : x1.data.toList.length = x1.size := rfl; omega
  have z0 : ¬ 9223372036854775807 < x0.size + 1 := by omega
  have z1 : ¬ 9223372036854775807 < x0.size + 1 + t.size := by omega
  have z2 : ¬ 9223372036854775807 < x0.size + 1 + t.size + 1 := by omega
  have z3 : ¬ 9223372036854775807 < x0.size + 1 + t.size + 1 + x1.size := by omega
  clear lt l0 y0 l1 y1
  have HB0 : Hid (Below w.heap.size w (w.alloc (xo ⟨32, t, nu, p, tk, tn, r, u⟩ (some ⟨g, o, none⟩) 2 cap))) := Lib.hid (b1 w _)
  have HS := Lib.hid (RS2.mk (xnb w ⟨32, t, nu, p, tk, tn, r, u⟩ (some ⟨g, o, none⟩) 2 cap) (x9 _ D0 hg) (x9 _ D1 hg) (b1 w (xo ⟨32, t, nu, p, tk, tn, r, u⟩ (some ⟨g, o, none⟩) 2 cap)))
  obtain ⟨d00, d01, d02, d03, d04, d05, d06, d07, d08⟩ := D0
  obtain ⟨d10, d11, d12, d13, d14, d15, d16, d17, d18⟩ := D1
  clear hk hk0 hk1 hn0 hn1 P0 P1
  go_enter Tryz.func75, Tryz.ntmps75
  go_wp2_with fail
  go_region_held3 (fun w' => w'.cell? ⟨w.heap.size, 0, none⟩ = some (.int .i64 32) ∧ w'.cell? ⟨w.heap.size, 1, none⟩ = some (.string t) ∧ w'.cell? ⟨w.heap.size, 2, none⟩ = some (.int .i64 nu) ∧ w'.cell? ⟨w.heap.size, 3, none⟩ = some (.int .i64 p) ∧ w'.cell? ⟨w.heap.size, 4, none⟩ = some (.slice (some ⟨g, o, none⟩) 2 cap) ∧ w'.cell? ⟨w.heap.size, 5, none⟩ = some (.int .i64 tk) ∧ w'.cell? ⟨w.heap.size, 6, none⟩ = some (.string tn) ∧ w'.cell? ⟨w.heap.size, 7, none⟩ = some (.int .i64 r) ∧ w'.cell? ⟨w.heap.size, 8, none⟩ = some (.int .i64 u) ∧ w'.cell? ⟨g, o, none⟩ = some (.int .i64 h0.kind) ∧ w'.cell? ⟨g, o + 1, none⟩ = some (.string h0.text) ∧ w'.cell? ⟨g, o + 2, none⟩ = some (.int .i64 h0.num) ∧ w'.cell? ⟨g, o + 3, none⟩ = some (.int .i64 h0.pos) ∧ w'.cell? ⟨g, o + 4, none⟩ = some (.slice A0 n0 c0) ∧ w'.cell? ⟨g, o + 5, none⟩ = some (.int .i64 h0.tk) ∧ w'.cell? ⟨g, o + 6, none⟩ = some (.string h0.tn) ∧ w'.cell? ⟨g, o + 7, none⟩ = some (.int .i64 h0.ref) ∧ w'.cell? ⟨g, o + 8, none⟩ = some (.int .i64 h0.up) ∧ w'.cell? ⟨g, o + 9, none⟩ = some (.int .i64 h1.kind) ∧ w'.cell? ⟨g, o + 9 + 1, none⟩ = some (.string h1.text) ∧ w'.cell? ⟨g, o + 9 + 2, none⟩ = some (.int .i64 h1.num) ∧ w'.cell? ⟨g, o + 9 + 3, none⟩ = some (.int .i64 h1.pos) ∧ w'.cell? ⟨g, o + 9 + 4, none⟩ = some (.slice A1 n1 c1) ∧ w'.cell? ⟨g, o + 9 + 5, none⟩ = some (.int .i64 h1.tk) ∧ w'.cell? ⟨g, o + 9 + 6, none⟩ = some (.string h1.tn) ∧ w'.cell? ⟨g, o + 9 + 7, none⟩ = some (.int .i64 h1.ref) ∧ w'.cell? ⟨g, o + 9 + 8, none⟩ = some (.int .i64 h1.up) ∧ Below w.heap.size w w')
    (first | exact HS.out.start | exact RS2.keep (hq := ⟨32, t, nu, p, tk, tn, r, u⟩) (Aq := (some ⟨g, o, none⟩)) (nq := 2) (cq := cap) (by assumption) hb)
    (first | (go_at_call 103; (with_reducible refine (HC0.out _ ?_).mono ?_); (go_split_ands; assumption); rintro e w' ⟨rfl, hb⟩) | (go_at_call 103; (with_reducible refine (HC1.out _ ?_).mono ?_); (go_split_ands; assumption); rintro e w' ⟨rfl, hb⟩))
  all_goals
    have HBE : Hid (Below w.heap.size w w') := Lib.hid (by go_split_ands; assumption)
    go_wp2
    go_ret
    exact ⟨str_fin (by rw [HX0.out, HX1.out] <;> simp), HBE.out⟩
end Go.Proofs.YticbcnhbpbaocaaGreatDoor
