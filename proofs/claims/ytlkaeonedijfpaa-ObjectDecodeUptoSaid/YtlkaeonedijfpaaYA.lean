/-
  Rows of structs in memory of the call's own: how they are kept while one of them grows.
-/
import Derived.Test.YtlkaeonedijfpaaWT
set_option linter.all false
namespace Go.Proofs.Ytlkaeonedijfpaa
open Go.RowKit C
theorem flat_len {α : Type} {cl : α → List Value} {k : Nat} (hk : ∀ x, (cl x).length = k) (l : List α) : ((l.map cl).flatten).length = l.length * k := by
  induction l with
  | nil => simp
  | cons a l ih => simp only [List.map_cons, List.flatten_cons, List.length_append, ih, hk, List.length_cons, Nat.succ_mul]; omega
theorem flat_at {α : Type} {cl : α → List Value} {k : Nat} (hk : ∀ x, (cl x).length = k) : ∀ (l : List α) (i r : Nat) (hi : i < l.length), r < k → ((l.map cl).flatten)[i * k + r]? = (cl l[i])[r]?
  | [], _, _, hi, _ => by simp at hi
  | a :: l, 0, r, _, hr => by
    simp only [List.map_cons, List.flatten_cons, Nat.zero_mul, Nat.zero_add]
    rw [List.getElem?_append_left (by rw [hk]; exact hr)]; rfl
  | a :: l, i + 1, r, hi, hr => by
    simp only [List.map_cons, List.flatten_cons]
    rw [List.getElem?_append_right (by rw [hk, Nat.succ_mul]; omega), hk, show (i + 1) * k + r - k = i * k + r by rw [Nat.succ_mul]; omega, flat_at hk l i r (by simpa using hi) hr]
    rfl
theorem flat_news {α : Type} {cl : α → List Value} {k : Nat} (hk : ∀ x, (cl x).length = k) (hk0 : 0 < k) {g o : Nat} {W : World} (l : List α) (h : ∀ i (hi : i < l.length), ∀ r, r < k → W.cell? ⟨g, o + i * k + r, none⟩ = (cl l[i])[r]?) :
    ∀ j u, ((l.map cl).flatten)[j]? = some u → W.cell? ((⟨g, o, none⟩ : Addr).add j) = some u := by
  intro j u hu
  have hj := (List.getElem?_eq_some_iff.1 hu).1
  rw [flat_len hk] at hj
  have hi : j / k < l.length := Nat.div_lt_of_lt_mul (by rw [Nat.mul_comm]; exact hj)
  have hr : j % k < k := Nat.mod_lt _ hk0
  have e : j = j / k * k + j % k := by rw [Nat.mul_comm]; exact (Nat.div_add_mod j k).symm
  rw [addr_add]
  rw [e] at hu ⊢
  rw [flat_at hk l _ _ hi hr] at hu
  rw [← hu, ← h _ hi _ hr, Nat.add_assoc]
theorem own_cells {α : Type} {cl : α → List Value} {k : Nat} (hk : ∀ x, (cl x).length = k) {V : World} {base g cap : Nat} {t : TypeId} {l : List α} (h : V.ownsRow base t k (.slice (some ⟨g, 0, none⟩) l.length cap) l.length ((l.map cl).flatten)) :
    ∀ i (hi : i < l.length), ∀ r, r < k → V.cell? ⟨g, i * k + r, none⟩ = (cl l[i])[r]? := by
  intro i hi r hr
  rw [h.cellAt (i * k + r) (by have : (i + 1) * k ≤ l.length * k := Nat.mul_le_mul_right k hi; rw [Nat.succ_mul] at this; omega), flat_at hk l i r hi hr]
theorem grown_set (W : World) (b j : Nat) (v : Value) : W.grownBy (W.setCell ⟨b, j, none⟩ v) (some b) :=
  ⟨rfl, rfl, rfl, by simp, fun k _ hk => heap_setCell_other W ⟨b, j, none⟩ k v (fun e => hk (by simp [e]))⟩
theorem own_keepN {w w' : World} {base n sz : Nat} {e : TypeId} {v : Value} {xs : List Value} (h : w.ownsRow base e sz v n xs) (hb : Below w.heap.size w w') : w'.ownsRow base e sz v n xs :=
  h.kept (row := none) ⟨hb.os, hb.tape, hb.output, hb.size, fun k hk _ => hb.block k hk⟩ (by cases v.ownBlock <;> simp)
/-- A row of the call's own. -/
structure Rw where
  t : TypeId
  sz : Nat
  v : Value
  n : Nat
  xs : List Value
def Rw.own (r : Rw) (base : Nat) (V : World) : Prop := V.ownsRow base r.t r.sz r.v r.n r.xs
/-- A box, a row that grows, and rows that stand. -/
structure Cg (base ob : Nat) (X : Rw) (R : List Rw) (cells : Array Value) (V : World) : Prop where
  box : V.heap[ob]? = some (.cells cells 31)
  x : X.own base V
  xob : X.v.ownBlock ≠ some ob
  r : ∀ y ∈ R, y.own base V ∧ ∀ b, y.v.ownBlock = some b → b ≠ ob ∧ X.v.ownBlock ≠ some b
  pw : R.Pairwise fun a b => ∀ x, a.v.ownBlock = some x → b.v.ownBlock ≠ some x
theorem own_lt {base : Nat} {V : World} {y : Rw} (h : y.own base V) {b : Nat} (hb : y.v.ownBlock = some b) : b < V.heap.size := (World.ownsRow.lt h b hb).2
theorem Cg.step {base ob g : Nat} {X X' y : Rw} {R : List Rw} {cells : Array Value} {V V5 V6 : World} {j : Nat} (h : Cg base ob X R cells V) (h5 : Below V.heap.size V V5) (hy : y.own base V5) (hyb : ∀ b, y.v.ownBlock = some b → V.heap.size ≤ b)
    (hx : X'.own base V6) (hg : V5.grownBy V6 X.v.ownBlock) (hat : X.v.ownBlock = some g ∨ g = V5.heap.size) (hXb : X'.v.ownBlock = some g) :
    Cg base ob X' (y :: R) (cells.setIfInBounds j X'.v) (V6.setCell ⟨ob, j, none⟩ X'.v) := by
  have hob : ob < V.heap.size := (Array.getElem?_eq_some_iff.1 h.box).1
  have h5s := h5.size
  have hgob : g ≠ ob := by
    rcases hat with e | e
    · intro e2; subst e2; exact h.xob e
    · omega
  have hset := grown_set V6 ob j X'.v
  have all : ∀ r ∈ y :: R, r.own base V5 ∧ ∀ b, r.v.ownBlock = some b → b ≠ ob ∧ X.v.ownBlock ≠ some b := by
    intro r hr
    rcases List.mem_cons.1 hr with rfl | hr
    · refine ⟨hy, fun b hb => ⟨by have := hyb b hb; omega, fun e => ?_⟩⟩
      have h1 := own_lt h.x e
      have h2 := hyb b hb
      omega
    · obtain ⟨h1, h2⟩ := h.r r hr
      exact ⟨own_keepN h1 h5, h2⟩
  refine ⟨?_, ?_, by rw [hXb]; intro e; exact hgob (by simpa using e), fun r hr => ?_, ?_⟩
  · have e1 : V6.heap[ob]? = some (.cells cells 31) := by
      rw [hg.block ob (by omega) (fun e => h.xob e.symm), h5.block ob hob]; exact h.box
    simp [World.setCell, Array.getElem?_modify, e1]
  · exact World.ownsRow.kept hx hset (.inr (by rw [hXb]; intro e; exact hgob (by simpa using e)))
  · obtain ⟨h1, h2⟩ := all r hr
    refine ⟨World.ownsRow.kept (World.ownsRow.kept h1 hg ?_) hset ?_, fun b hb => ⟨(h2 b hb).1, ?_⟩⟩
    · cases hb : r.v.ownBlock with
      | none => exact .inl rfl
      | some b => exact .inr (by intro e; exact (h2 b hb).2 e.symm)
    · cases hb : r.v.ownBlock with
      | none => exact .inl rfl
      | some b => exact .inr (by intro e; exact (h2 b hb).1 (by simpa using e))
    · rw [hXb]
      intro e
      have e2 : g = b := by simpa using e
      subst e2
      rcases hat with e3 | e3
      · exact (h2 g hb).2 e3
      · have := own_lt h1 hb; omega
  · refine List.pairwise_cons.2 ⟨fun r hr x hx e => ?_, h.pw⟩
    have h1 := own_lt (h.r r hr).1 e
    have h2 := hyb x hx
    omega
/-- The blocks below stand. -/
theorem cg_old {base ob : Nat} {w : World} {V V5 V6 : World} {row : Option Nat} {j n : Nat} {v : Value} (hn : n < base) (hV : n < V.heap.size) (h5 : Below V.heap.size V V5) (hg : V5.grownBy V6 row) (hr : ∀ k, row = some k → base ≤ k) (hob : base ≤ ob) : (V6.setCell ⟨ob, j, none⟩ v).heap[n]? = V.heap[n]? := by
  have h5s := h5.size
  rw [(grown_set V6 ob j v).block n (by have := hg.size; omega) (fun e => by cases e; omega), hg.block n (by omega) (by intro e; have := hr n e.symm; omega), h5.block n hV]
theorem cg_bel {base ob : Nat} {w V V5 V6 : World} {row : Option Nat} {j : Nat} {v : Value} (h : Below w.heap.size w V) (h5 : Below V.heap.size V V5) (hg : V5.grownBy V6 row) (hb : w.heap.size ≤ base) (hr : ∀ k, row = some k → base ≤ k) (hob : base ≤ ob) : Below w.heap.size w (V6.setCell ⟨ob, j, none⟩ v) :=
  ((h.trans (h5.mono h.size)).grown hg (by have := h.size; have := h5.size; omega) (fun k hk => by have := hr k hk; omega)).grown (grown_set V6 ob j v) (by have := h.size; have := h5.size; have := hg.size; omega) (fun k hk => by cases hk; omega)
/-- What is appended to nothing. -/
theorem wpList_append_same {P : Program} (w : World) {ops : Array Oper} {rest : List Oper} {o : Oper} {a : Act} {Q : Exit → Act → World → Prop} (hgd : o.guard = none) (s x : Operand) (t : TypeId)
    (ho : o.op = .call { callee := .builtin .append, args := #[s, x], argTypes := #[t, t] })
    (base : Nat) (e : TypeId) (i : TypeInfo) (size : Nat) (ht : P.underlying t = some (.slice e)) (hi : P.info? e = some i) (hsize : i.size = size) (v : Value) (n : Nat) (xs : List Value) (hs : a.eval s = v) (hown : w.ownsRow base e size v n xs)
    (A : Option Addr) (m c : Nat) (hm : m = 0) (hx : a.eval x = .slice A m c)
    (h : wpList P ops Q rest (a.put o.dst v) w) : wpList P ops Q (o :: rest) a w :=
  wpList_plain hgd fun _ hK => by
    have hw : Region.wanted o (yielded ops a.tmps) = true := by simp [Region.wanted, hgd]
    have := step_append_same (P := P) (ops := ops) (K := fun a' w' => wpList P ops Q rest a' w') (Q := Q) (E := False) w hgd s x t ho base e i size ht hi hsize v n xs hs hown A m c hm hx h
    rw [if_pos hw] at this
    exact Oper.wp_mono (fun a' w' h' => hK a' w' h') this
theorem infoIn : (Try.prog.info? 57).map (fun i => (i.zero, i.size, i.bytes)) = some (some (.agg #[.int .i64 0, .int .i64 0, .int .i64 0, .int .i64 0, .int .i64 0]), 5, 40) := by kernel_rfl
theorem infoFn : (Try.prog.info? 55).map (fun i => (i.zero, i.size, i.bytes)) = some (some (.agg #[.string ⟨#[]⟩, .int .i64 0, .int .i64 0, .slice none 0 0]), 4, 56) := by kernel_rfl
theorem infoGl : (Try.prog.info? 51).map (fun i => (i.zero, i.size, i.bytes)) = some (some (.agg #[.string ⟨#[]⟩, .int .i64 0]), 2, 24) := by kernel_rfl
theorem infoLy : (Try.prog.info? 52).map (fun i => (i.zero, i.size, i.bytes)) = some (some (.slice none 0 0), 1, 24) := by kernel_rfl
abbrev glC (x : Gl) : List Value := [.string x.name, .int .i64 x.kind]
abbrev inC (x : In) : List Value := [.int .i64 x.op, .int .i64 x.a, .int .i64 x.b, .int .i64 x.c, .int .i64 x.at']
abbrev fnC (y : Fc × Value) : List Value := [.string y.1.name, .int .i64 y.1.params, .int .i64 y.1.regs, y.2]
abbrev lyC (y : List Int × Value) : List Value := [y.2]
abbrev pb (p : Pg) (A B D : Option Addr) (ca cb cd : Nat) : Array Value := #[.slice A p.funcs.length ca, .slice B p.globals.length cb, .slice D p.layouts.length cd, .int .i64 p.main]
theorem cells4 {w : World} {b : Nat} {a0 a1 a2 a3 : Value} {t : TypeId} (h : w.heap[b]? = some (.cells #[a0, a1, a2, a3] t (0, 0))) : (w.cell? ⟨b, 0, none⟩ = some a0 ∧ w.cell? ⟨b, 1, none⟩ = some a1 ∧ w.cell? ⟨b, 2, none⟩ = some a2 ∧ w.cell? ⟨b, 3, none⟩ = some a3) ∧
    w.frozen? ⟨b, 0, none⟩ = false ∧ w.frozen? ⟨b, 1, none⟩ = false ∧ w.frozen? ⟨b, 2, none⟩ = false ∧ w.frozen? ⟨b, 3, none⟩ = false := by
  simp [World.cell?, World.frozen?, h]
theorem blk4 {w : World} {b : Nat} {a0 a1 a2 a3 b0 b1 b2 b3 : Value} {t : TypeId} (h : w.heap[b]? = some (.cells #[b0, b1, b2, b3] t (0, 0))) :
    ((((w.setCell ⟨b, 0, none⟩ a0).setCell ⟨b, 1, none⟩ a1).setCell ⟨b, 2, none⟩ a2).setCell ⟨b, 3, none⟩ a3).heap[b]? = some (.cells #[a0, a1, a2, a3] t (0, 0)) := by
  simp [World.setCell, Array.getElem?_modify, h]
theorem B1.grownK {p : Pg} {A B D : Option Addr} {ca cb cd : Nat} {w V w' : World} {row : Option Nat} (h : B1 p A B D ca cb cd w V) (hg : V.grownBy w' row) (hs : w.heap.size + 1 ≤ V.heap.size) (hr : ∀ j, row = some j → w.heap.size + 1 ≤ j) : B1 p A B D ca cb cd w w' := by
  have hb : Below (w.heap.size + 1) V w' := (Below.refl _ V).grown hg hs hr
  obtain ⟨y0, y1, y2, y3, yb⟩ := h
  have c : ∀ o, w'.cell? ⟨w.heap.size, o, none⟩ = V.cell? ⟨w.heap.size, o, none⟩ := fun o => hb.cell (p := ⟨w.heap.size, o, none⟩) (by simp)
  exact ⟨by rw [c]; exact y0, by rw [c]; exact y1, by rw [c]; exact y2, by rw [c]; exact y3, yb.trans (hb.mono (by omega))⟩
theorem B1.setC {p : Pg} {A B D : Option Addr} {ca cb cd : Nat} {w V : World} {b j : Nat} {v : Value} (h : B1 p A B D ca cb cd w V) (hb : w.heap.size < b) : B1 p A B D ca cb cd w (V.setCell ⟨b, j, none⟩ v) := by
  have hV : w.heap.size + 1 ≤ V.heap.size := by
    obtain ⟨y0, _⟩ := h
    have := World.block_lt_of_cell? V _ y0
    simp only at this
    omega
  exact B1.grownK h (grown_set V b j v) hV (fun k hk => by cases hk; omega)
/-- Sizes that memory bears. -/
structure Sz (p : Pg) : Prop where
  f : p.funcs.length ≤ 1048576
  g : p.globals.length ≤ 1048576
  l : p.layouts.length ≤ 1048576
  c : ∀ f ∈ p.funcs, f.code.length ≤ 1048576
  r : ∀ l ∈ p.layouts, l.length ≤ 1048576
theorem news_row {α : Type} {k : Nat} {R : α → Nat → Nat → Prop} {cl : α → List Value} {W : World} (hk : ∀ x, (cl x).length = k) (hk0 : 0 < k) (H : ∀ x g o, R x g o → ∀ r, r < k → W.cell? ⟨g, o + r, none⟩ = (cl x)[r]?) {g o : Nat} {l : List α} (h : ∀ i (hi : i < l.length), R l[i] g (o + i * k)) :
    ∀ j u, ((l.map cl).flatten)[j]? = some u → W.cell? ((⟨g, o, none⟩ : Addr).add j) = some u := flat_news hk hk0 l fun i hi r hr => H _ _ _ (h i hi) r hr
theorem gl_cells {W : World} (x : Gl) (g o : Nat) (h : GlAt W x g o) : ∀ r, r < 2 → W.cell? ⟨g, o + r, none⟩ = (glC x)[r]?
  | 0, _ => h.c0
  | 1, _ => h.c1
  | r + 2, hr => absurd hr (by omega)
theorem in_cells {W : World} (x : In) (g o : Nat) (h : InAt W x g o) : ∀ r, r < 5 → W.cell? ⟨g, o + r, none⟩ = (inC x)[r]?
  | 0, _ => h.c0
  | 1, _ => h.c1
  | 2, _ => h.c2
  | 3, _ => h.c3
  | 4, _ => h.c4
  | r + 5, hr => absurd hr (by omega)
theorem int_cells {W : World} (x : Int) (g o : Nat) (h : IntAt W x g o) : ∀ r, r < 1 → W.cell? ⟨g, o + r, none⟩ = ([Value.int .i64 x])[r]?
  | 0, _ => h.c0
  | r + 1, hr => absurd hr (by omega)
theorem one_flat {α : Type} {cl : α → List Value} {l : List α} (h : ∀ x, ∀ u ∈ cl x, u.oneCell' = true) : ∀ u ∈ (l.map cl).flatten, u.oneCell' = true := by
  intro u hu
  obtain ⟨c, hc, huc⟩ := List.mem_flatten.1 hu
  obtain ⟨x, _, rfl⟩ := List.mem_map.1 hc
  exact h x u huc
theorem gl_one (x : Gl) : ∀ u ∈ glC x, u.oneCell' = true := by intro u hu; simp at hu; rcases hu with rfl | rfl <;> rfl
theorem in_one (x : In) : ∀ u ∈ inC x, u.oneCell' = true := by intro u hu; simp at hu; rcases hu with rfl | rfl | rfl | rfl | rfl <;> rfl
end Go.Proofs.Ytlkaeonedijfpaa
