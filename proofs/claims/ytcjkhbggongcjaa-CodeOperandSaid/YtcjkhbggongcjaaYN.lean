/-
  What stands while Copy works.
-/
import Derived.Test.YtcjkhbggongcjaaYB
set_option linter.all false
namespace Go.Proofs.Ytcjkhbggongcjaa
open Go.RowKit C
def codeRow (y : Fc × Value) : Rw := ⟨44, 5, y.2, y.1.code.length, (y.1.code.map inC).flatten⟩
def layRow (y : List Int × Value) : Rw := ⟨3, 1, y.2, y.1.length, y.1.map (Value.int .i64)⟩
def glRow (p : Pg) (v : Value) : Rw := ⟨51, 2, v, p.globals.length, (p.globals.map glC).flatten⟩
def nilF : Rw := ⟨38, 4, .slice none 0 0, 0, []⟩
def nilL : Rw := ⟨33, 1, .slice none 0 0, 0, []⟩
theorem cg_new {base g : Nat} {w4 : World} {y : Rw} {main : Value} (hb : y.v.ownBlock = some g) (h : y.own base w4) :
    Cg base w4.heap.size nilF [y] #[.slice none 0 0, y.v, .slice none 0 0, main] (w4.alloc (.cells #[.slice none 0 0, y.v, .slice none 0 0, main] 26)) := by
  refine ⟨heap_alloc_new _ _, World.ownsRow_nil _ _ _ _, by simp [nilF, Value.ownBlock], ?_, List.pairwise_singleton _ _⟩
  intro z hz
  obtain rfl : z = y := by simpa using hz
  refine ⟨World.ownsRow.alloc h _, fun b hb2 => ⟨?_, by simp [nilF, Value.ownBlock]⟩⟩
  have := own_lt h hb2
  omega
theorem cg_set {base g ob : Nat} {w4 : World} {y : Rw} {main z0 z1 z2 z3 : Value} (hb : y.v.ownBlock = some g) (hne : g ≠ ob) (hbx : w4.heap[ob]? = some (.cells #[z0, z1, z2, z3] 26 (0, 0))) (h : y.own base w4) :
    Cg base ob nilF [y] #[.slice none 0 0, y.v, .slice none 0 0, main] ((((w4.setCell ⟨ob, 0, none⟩ (.slice none 0 0)).setCell ⟨ob, 1, none⟩ y.v).setCell ⟨ob, 2, none⟩ (.slice none 0 0)).setCell ⟨ob, 3, none⟩ main) := by
  refine ⟨blk4 hbx, World.ownsRow_nil _ _ _ _, by simp [nilF, Value.ownBlock], ?_, List.pairwise_singleton _ _⟩
  intro z hz
  obtain rfl : z = y := by simpa using hz
  have hr : ∀ (V : World) (j : Nat) (v : Value), z.own base V → z.own base (V.setCell ⟨ob, j, none⟩ v) := fun V j v h => World.ownsRow.kept h (grown_set V ob j v) (.inr (by rw [hb]; intro e; exact hne (by simpa using e)))
  refine ⟨hr _ _ _ (hr _ _ _ (hr _ _ _ (hr _ _ _ h))), fun b hb2 => ⟨?_, by simp [nilF, Value.ownBlock]⟩⟩
  rw [hb] at hb2
  have : g = b := by simpa using hb2
  omega
/-- Behind the code of a function. -/
theorem after6 {base n g5 cap5 : Nat} {wr w5 W6 : World} {a0 a1 a2 a3 : Value} {news : List Value} {E : Obj}
    (ho : w5.ownsRow base 44 5 (.slice (some ⟨g5, 0, none⟩) n cap5) n news)
    (hg : ((wr.alloc (.cells #[a0, a1, a2, a3] 38)).alloc E).grownBy w5 (some (wr.heap.size + 1)))
    (hat : g5 = wr.heap.size + 1 ∨ g5 = wr.heap.size + 2) (hW : W6 = w5.setCell ⟨wr.heap.size, 3, none⟩ (.slice (some ⟨g5, 0, none⟩) n cap5)) :
    W6.heap[wr.heap.size]? = some (.cells #[a0, a1, a2, .slice (some ⟨g5, 0, none⟩) n cap5] 38) ∧ Below wr.heap.size wr W6 ∧ W6.ownsRow base 44 5 (.slice (some ⟨g5, 0, none⟩) n cap5) n news ∧ wr.heap.size + 2 ≤ W6.heap.size := by
  have hb5 : w5.heap[wr.heap.size]? = some (.cells #[a0, a1, a2, a3] 38) := (hg.block wr.heap.size (by simp; omega) (by simp)).trans (heap2a wr _ _)
  have hs5 := hg.size
  simp at hs5
  have hB5 : Below wr.heap.size wr w5 := (below2 wr _ _).grown hg (by simp; omega) (fun k hk => by cases hk; omega)
  subst hW
  refine ⟨?_, hB5.grown (grown_set _ _ _ _) (by omega) (fun k hk => by cases hk; omega), World.ownsRow.kept ho (grown_set _ _ _ _) (.inr ?_), by simp; omega⟩
  · simp [World.setCell, Array.getElem?_modify, hb5]
  · simp [Value.ownBlock]; omega
theorem bel_base {base : Nat} {w V5 V6 : World} {row : Option Nat} {ob j : Nat} {v : Value} (h : Below w.heap.size w V5) (hg : V5.grownBy V6 row) (hw : w.heap.size ≤ base) (hr : ∀ k, row = some k → base ≤ k) (hob : base ≤ ob) : Below w.heap.size w (V6.setCell ⟨ob, j, none⟩ v) :=
  ((h.grown hg h.size fun k hk => Nat.le_trans hw (hr k hk))).grown (grown_set _ _ _ _) (by have := h.size; have := hg.size; omega) (fun k hk => by cases hk; omega)
theorem own_ge {base : Nat} {V : World} {y : Rw} (h : y.own base V) {b : Nat} (hb : y.v.ownBlock = some b) : base ≤ b := (World.ownsRow.lt h b hb).1
/-- The functions that are copied. -/
structure J1 (p : Pg) (base ob : Nat) (gv : Value) (k : Nat) (ys : List (Fc × Value)) (Xa : Option Addr) (cx : Nat) (R : List Rw) (wr : World) : Prop where
  len : ys.map (·.1) = p.funcs.take k
  cg : Cg base ob ⟨38, 4, .slice Xa k cx, k, (ys.map fnC).flatten⟩ R #[.slice Xa k cx, gv, .slice none 0 0, .int .i64 p.main] wr
  cs : ∀ y ∈ ys, codeRow y ∈ R
  gl : glRow p gv ∈ R
  sl : ∀ y ∈ ys, ∃ g c, y.2 = .slice (some ⟨g, 0, none⟩) y.1.code.length c
  pw : ys.Pairwise fun a b => ∀ x, a.2.ownBlock = some x → b.2.ownBlock ≠ some x
theorem J1.next {p : Pg} {base ob : Nat} {gv : Value} {k : Nat} {ys : List (Fc × Value)} {Xa : Option Addr} {cx : Nat} {R : List Rw} {wr V5 V6 : World} {x : Fc} {g5 cap5 g2 cap2 : Nat} (h : J1 p base ob gv k ys Xa cx R wr) (hk : k < p.funcs.length) (hx : p.funcs[k] = x)
    (h5 : Below wr.heap.size wr V5) (ho : V5.ownsRow base 44 5 (.slice (some ⟨g5, 0, none⟩) x.code.length cap5) x.code.length ((x.code.map inC).flatten)) (hg5 : wr.heap.size ≤ g5)
    (hx6 : V6.ownsRow base 38 4 (.slice (some ⟨g2, 0, none⟩) (k + 1) cap2) (k + 1) ((ys.map fnC).flatten ++ fnC (x, .slice (some ⟨g5, 0, none⟩) x.code.length cap5)))
    (hg : V5.grownBy V6 (Value.slice Xa k cx).ownBlock) (hat : (Value.slice Xa k cx).ownBlock = some g2 ∨ g2 = V5.heap.size) :
    J1 p base ob gv (k + 1) (ys ++ [(x, .slice (some ⟨g5, 0, none⟩) x.code.length cap5)]) (some ⟨g2, 0, none⟩) cap2 (codeRow (x, .slice (some ⟨g5, 0, none⟩) x.code.length cap5) :: R) (V6.setCell ⟨ob, 0, none⟩ (.slice (some ⟨g2, 0, none⟩) (k + 1) cap2)) := by
  have hst := Cg.step (j := 0) (X' := ⟨38, 4, .slice (some ⟨g2, 0, none⟩) (k + 1) cap2, k + 1, (ys.map fnC).flatten ++ fnC (x, .slice (some ⟨g5, 0, none⟩) x.code.length cap5)⟩) (y := codeRow (x, .slice (some ⟨g5, 0, none⟩) x.code.length cap5)) (g := g2) h.cg h5 ho (by intro b hb; simp [codeRow, Value.ownBlock] at hb; omega) hx6 hg hat rfl
  refine ⟨by rw [List.map_append, h.len, List.take_succ_eq_append_getElem hk, hx]; rfl, ?_, ?_, List.mem_cons_of_mem _ h.gl, ?_, ?_⟩
  · simpa using hst
  · intro y hy
    rcases List.mem_append.1 hy with hy | hy
    · exact List.mem_cons_of_mem _ (h.cs y hy)
    · obtain rfl : y = _ := by simpa using hy
      exact List.mem_cons_self
  · intro y hy
    rcases List.mem_append.1 hy with hy | hy
    · exact h.sl y hy
    · obtain rfl : y = _ := by simpa using hy
      exact ⟨_, _, rfl⟩
  · refine List.pairwise_append.2 ⟨h.pw, List.pairwise_singleton _ _, fun a ha b hb x hx e => ?_⟩
    obtain rfl : b = _ := by simpa using hb
    have h1 := own_lt (h.cg.r _ (h.cs a ha)).1 hx
    have h2 : g5 = x := by simpa [Value.ownBlock] using e
    omega
theorem new_set (w5 : World) (b j : Nat) (v : Value) (o : Obj) : (((w5.setCell ⟨b, j, none⟩ v).alloc o).heap[w5.heap.size]? = some o) := by
  have h := heap_alloc_new (w5.setCell ⟨b, j, none⟩ v) o
  rwa [World.size_setCell] at h
theorem fn_one (x : Fc) (g c n : Nat) : ∀ u ∈ fnC (x, .slice (some ⟨g, 0, none⟩) n c), u.oneCell' = true := by intro u hu; simp at hu; rcases hu with rfl | rfl | rfl | rfl <;> rfl

theorem news_ints {W : World} {g o : Nat} {l : List Int} (h : ∀ i (hi : i < l.length), IntAt W l[i] g (o + i * 1)) : ∀ j u, (l.map (Value.int .i64))[j]? = some u → W.cell? ((⟨g, o, none⟩ : Addr).add j) = some u := by
  intro j u hu
  obtain ⟨hj, e⟩ := List.getElem?_eq_some_iff.1 hu
  rw [List.getElem_map] at e
  rw [List.length_map] at hj
  rw [addr_add, ← e]
  have := (h j hj).c0
  rwa [Nat.mul_one] at this
theorem cg_switch {base ob : Nat} {X : Rw} {R : List Rw} {cells : Array Value} {V : World} (h : Cg base ob X R cells V) : Cg base ob nilL (X :: R) cells V := by
  refine ⟨h.box, World.ownsRow_nil _ _ _ _, by simp [nilL, Value.ownBlock], ?_, List.pairwise_cons.2 ⟨fun r hr x hx e => (h.r r hr).2 x e |>.2 hx, h.pw⟩⟩
  intro y hy
  rcases List.mem_cons.1 hy with rfl | hy
  · exact ⟨h.x, fun b hb => ⟨fun e => h.xob (by rw [hb, e]), by simp [nilL, Value.ownBlock]⟩⟩
  · exact ⟨(h.r y hy).1, fun b hb => ⟨((h.r y hy).2 b hb).1, by simp [nilL, Value.ownBlock]⟩⟩
/-- The layouts that are copied. -/
structure J2 (p : Pg) (base ob : Nat) (gv : Value) (ys : List (Fc × Value)) (Xa : Option Addr) (cx : Nat) (k : Nat) (zs : List (List Int × Value)) (Ya : Option Addr) (cy : Nat) (R : List Rw) (wr : World) : Prop where
  len : zs.map (·.1) = p.layouts.take k
  cg : Cg base ob ⟨33, 1, .slice Ya k cy, k, (zs.map lyC).flatten⟩ R #[.slice Xa p.funcs.length cx, gv, .slice Ya k cy, .int .i64 p.main] wr
  ls : ∀ z ∈ zs, layRow z ∈ R
  sl : ∀ z ∈ zs, ∃ g c, z.2 = .slice (some ⟨g, 0, none⟩) z.1.length c
  fs : (⟨38, 4, .slice Xa p.funcs.length cx, p.funcs.length, (ys.map fnC).flatten⟩ : Rw) ∈ R
  cs : ∀ y ∈ ys, codeRow y ∈ R
  gl : glRow p gv ∈ R
  yl : ys.map (·.1) = p.funcs
  ysl : ∀ y ∈ ys, ∃ g c, y.2 = .slice (some ⟨g, 0, none⟩) y.1.code.length c
  pw : ys.Pairwise fun a b => ∀ x, a.2.ownBlock = some x → b.2.ownBlock ≠ some x
theorem J2.start {p : Pg} {base ob : Nat} {gv : Value} {ys : List (Fc × Value)} {Xa : Option Addr} {cx : Nat} {R : List Rw} {wr : World} (h : J1 p base ob gv p.funcs.length ys Xa cx R wr) :
    J2 p base ob gv ys Xa cx 0 [] none 0 (⟨38, 4, .slice Xa p.funcs.length cx, p.funcs.length, (ys.map fnC).flatten⟩ :: R) wr :=
  ⟨rfl, cg_switch h.cg, by simp, by simp, List.mem_cons_self, fun y hy => List.mem_cons_of_mem _ (h.cs y hy), List.mem_cons_of_mem _ h.gl, by rw [h.len, List.take_length], h.sl, h.pw⟩
theorem J2.next {p : Pg} {base ob : Nat} {gv : Value} {ys : List (Fc × Value)} {Xa : Option Addr} {cx : Nat} {k : Nat} {zs : List (List Int × Value)} {Ya : Option Addr} {cy : Nat} {R : List Rw} {wr V5 V6 : World} {x : List Int} {g5 cap5 g2 cap2 : Nat} (h : J2 p base ob gv ys Xa cx k zs Ya cy R wr) (hk : k < p.layouts.length) (hx : p.layouts[k] = x)
    (h5 : Below wr.heap.size wr V5) (ho : V5.ownsRow base 3 1 (.slice (some ⟨g5, 0, none⟩) x.length cap5) x.length (x.map (Value.int .i64))) (hg5 : wr.heap.size ≤ g5)
    (hx6 : V6.ownsRow base 33 1 (.slice (some ⟨g2, 0, none⟩) (k + 1) cap2) (k + 1) ((zs.map lyC).flatten ++ lyC (x, .slice (some ⟨g5, 0, none⟩) x.length cap5)))
    (hg : V5.grownBy V6 (Value.slice Ya k cy).ownBlock) (hat : (Value.slice Ya k cy).ownBlock = some g2 ∨ g2 = V5.heap.size) :
    J2 p base ob gv ys Xa cx (k + 1) (zs ++ [(x, .slice (some ⟨g5, 0, none⟩) x.length cap5)]) (some ⟨g2, 0, none⟩) cap2 (layRow (x, .slice (some ⟨g5, 0, none⟩) x.length cap5) :: R) (V6.setCell ⟨ob, 2, none⟩ (.slice (some ⟨g2, 0, none⟩) (k + 1) cap2)) := by
  have hst := Cg.step (j := 2) (X' := ⟨33, 1, .slice (some ⟨g2, 0, none⟩) (k + 1) cap2, k + 1, (zs.map lyC).flatten ++ lyC (x, .slice (some ⟨g5, 0, none⟩) x.length cap5)⟩) (y := layRow (x, .slice (some ⟨g5, 0, none⟩) x.length cap5)) (g := g2) h.cg h5 ho (by intro b hb; simp [layRow, Value.ownBlock] at hb; omega) hx6 hg hat rfl
  refine ⟨by rw [List.map_append, h.len, List.take_succ_eq_append_getElem hk, hx]; rfl, ?_, ?_, ?_, List.mem_cons_of_mem _ h.fs, fun y hy => List.mem_cons_of_mem _ (h.cs y hy), List.mem_cons_of_mem _ h.gl, h.yl, h.ysl, h.pw⟩
  · simpa using hst
  · intro y hy
    rcases List.mem_append.1 hy with hy | hy
    · exact List.mem_cons_of_mem _ (h.ls y hy)
    · obtain rfl : y = _ := by simpa using hy
      exact List.mem_cons_self
  · intro y hy
    rcases List.mem_append.1 hy with hy | hy
    · exact h.sl y hy
    · obtain rfl : y = _ := by simpa using hy
      exact ⟨_, _, rfl⟩
theorem ly_one (g c n : Nat) (x : List Int) : ∀ u ∈ lyC (x, .slice (some ⟨g, 0, none⟩) n c), u.oneCell' = true := by intro u hu; simp at hu; subst hu; rfl
theorem own_addr {V : World} {base n sz c : Nat} {t : TypeId} {A : Option Addr} {xs : List Value} (h : V.ownsRow base t sz (.slice A n c) n xs) (hn : 0 < n) : ∃ g, A = some ⟨g, 0, none⟩ ∧ n ≤ c ∧ g < V.heap.size := by
  rcases h.2 with ⟨_, e⟩ | ⟨g, cap, cur, e, _, hb, hc, _⟩
  · omega
  · cases e
    exact ⟨g, rfl, hc, (Array.getElem?_eq_some_iff.1 hb).1⟩
theorem own_cap {V : World} {base n sz c : Nat} {t : TypeId} {A : Option Addr} {xs : List Value} (h : V.ownsRow base t sz (.slice A n c) n xs) : n ≤ c := by
  rcases h.2 with ⟨_, e⟩ | ⟨g, cap, cur, e, _, hb, hc, _⟩
  · omega
  · cases e; exact hc
theorem at_of_map {α β : Type} {ys : List (α × β)} {l : List α} (h : ys.map (·.1) = l) : ys.length = l.length ∧ ∀ i (hi : i < l.length) (hj : i < ys.length), ys[i].1 = l[i] := by
  subst h
  exact ⟨by simp, fun i hi hj => by simp⟩
theorem copied_funcs {p : Pg} {base : Nat} {wr w : World} {A B D : Option Addr} {ca cb cd : Nat} {ys : List (Fc × Value)} {Xa : Option Addr} {cx : Nat} (hp : PgAt w p A B D ca cb cd)
    (hx : wr.ownsRow base 38 4 (.slice Xa p.funcs.length cx) p.funcs.length ((ys.map fnC).flatten)) (yl : ys.map (·.1) = p.funcs) (sl : ∀ y ∈ ys, ∃ g c, y.2 = .slice (some ⟨g, 0, none⟩) y.1.code.length c)
    (cs : ∀ y ∈ ys, (codeRow y).own base wr) : Row 4 (FnAt wr) Xa p.funcs := by
  by_cases h0 : 0 < p.funcs.length
  · obtain ⟨g, rfl, hcap, hlt⟩ := own_addr hx h0
    obtain ⟨gA, oA, _, hA⟩ := hp.fs.at h0
    obtain ⟨e1, e2⟩ := at_of_map yl
    refine .inr ⟨g, 0, rfl, fun i hi => ?_⟩
    have hj : i < ys.length := by omega
    have ey := e2 i hi hj
    have hc := own_cells (cl := fnC) (k := 4) (fun _ => rfl) (l := ys) (cap := cx) (by rw [e1]; exact hx) i hj
    have hold := hA i hi
    obtain ⟨g', c', e3⟩ := sl _ (List.getElem_mem hj)
    have hcr := cs _ (List.getElem_mem hj)
    rw [Nat.zero_add]
    rw [ey] at e3
    refine ⟨hlt, ?_, ?_, ?_, ?_, hold.s0, hold.b1, hold.b2⟩
    · have := hc 0 (by omega); simpa [ey] using this
    · have := hc 1 (by omega); simpa [ey] using this
    · have := hc 2 (by omega); simpa [ey] using this
    · unfold Rw.own codeRow at hcr
      simp only [ey, e3] at hcr
      obtain ⟨Ao, co, _, hco, hm, hr⟩ := hold.row
      refine ⟨_, _, by have := hc 3 (by omega); simpa [e3] using this, own_cap hcr, hm, .inr ⟨g', 0, rfl, fun r hr2 => ?_⟩⟩
      obtain ⟨gO, oO, _, hO⟩ := hr.at (by omega)
      have ho := hO r hr2
      have hc2 := own_cells (cl := inC) (k := 5) (fun _ => rfl) (l := p.funcs[i].code) hcr r hr2
      rw [Nat.zero_add]
      refine ⟨own_lt (y := ⟨_, _, _, _, _⟩) hcr rfl, ?_, ?_, ?_, ?_, ?_, ho.b0, ho.b1, ho.b2, ho.b3, ho.b4⟩
      · have := hc2 0 (by omega); simpa using this
      · have := hc2 1 (by omega); simpa using this
      · have := hc2 2 (by omega); simpa using this
      · have := hc2 3 (by omega); simpa using this
      · have := hc2 4 (by omega); simpa using this
  · exact .inl (List.eq_nil_of_length_eq_zero (by omega))
theorem copied_lays {p : Pg} {base : Nat} {wr w : World} {A B D : Option Addr} {ca cb cd : Nat} {zs : List (List Int × Value)} {Ya : Option Addr} {cy : Nat} (hp : PgAt w p A B D ca cb cd)
    (hx : wr.ownsRow base 33 1 (.slice Ya p.layouts.length cy) p.layouts.length ((zs.map lyC).flatten)) (yl : zs.map (·.1) = p.layouts) (sl : ∀ z ∈ zs, ∃ g c, z.2 = .slice (some ⟨g, 0, none⟩) z.1.length c)
    (cs : ∀ z ∈ zs, (layRow z).own base wr) : Row 1 (LyAt wr) Ya p.layouts := by
  by_cases h0 : 0 < p.layouts.length
  · obtain ⟨g, rfl, hcap, hlt⟩ := own_addr hx h0
    obtain ⟨gA, oA, _, hA⟩ := hp.ls.at h0
    obtain ⟨e1, e2⟩ := at_of_map yl
    refine .inr ⟨g, 0, rfl, fun i hi => ?_⟩
    have hj : i < zs.length := by omega
    have ey := e2 i hi hj
    have hc := own_cells (cl := lyC) (k := 1) (fun _ => rfl) (l := zs) (cap := cy) (by rw [e1]; exact hx) i hj
    have hold := hA i hi
    obtain ⟨g', c', e3⟩ := sl _ (List.getElem_mem hj)
    have hcr := cs _ (List.getElem_mem hj)
    rw [Nat.zero_add]
    rw [ey] at e3
    unfold Rw.own layRow at hcr
    simp only [ey, e3] at hcr
    obtain ⟨Ao, co, _, hco, hm, hr⟩ := hold.row
    refine ⟨hlt, _, _, by have := hc 0 (by omega); simpa [e3] using this, own_cap hcr, hm, .inr ⟨g', 0, rfl, fun r hr2 => ?_⟩⟩
    obtain ⟨gO, oO, _, hO⟩ := hr.at (by omega)
    have hc2 := hcr.cellAt r (by omega)
    rw [Nat.zero_add]
    refine ⟨own_lt (y := ⟨_, _, _, _, _⟩) hcr rfl, ?_, (hO r hr2).b0⟩
    simpa [hr2] using hc2
  · exact .inl (List.eq_nil_of_length_eq_zero (by omega))
theorem copied_globals {p : Pg} {base : Nat} {wr w : World} {A B D : Option Addr} {ca cb cd g1 cap1 : Nat} (hp : PgAt w p A B D ca cb cd)
    (hx : wr.ownsRow base 51 2 (.slice (some ⟨g1, 0, none⟩) p.globals.length cap1) p.globals.length ((p.globals.map glC).flatten)) : Row 2 (GlAt wr) (some ⟨g1, 0, none⟩) p.globals := by
  refine .inr ⟨g1, 0, rfl, fun i hi => ?_⟩
  obtain ⟨gA, oA, _, hA⟩ := hp.gs.at (by omega)
  have hold := hA i hi
  have hc := own_cells (cl := glC) (k := 2) (fun _ => rfl) (l := p.globals) hx i hi
  rw [Nat.zero_add]
  refine ⟨own_lt (y := ⟨_, _, _, _, _⟩) hx rfl, ?_, ?_, hold.s0, hold.b1⟩
  · have := hc 0 (by omega); simpa using this
  · have := hc 1 (by omega); simpa using this
theorem J2.pg {p : Pg} {base ob : Nat} {w : World} {A B D : Option Addr} {ca cb cd g1 cap1 : Nat} {ys : List (Fc × Value)} {Xa : Option Addr} {cx : Nat} {zs : List (List Int × Value)} {Ya : Option Addr} {cy : Nat} {R : List Rw} {wr : World} (hp : PgAt w p A B D ca cb cd)
    (h : J2 p base ob (.slice (some ⟨g1, 0, none⟩) p.globals.length cap1) ys Xa cx p.layouts.length zs Ya cy R wr) : PgAt wr p Xa (some ⟨g1, 0, none⟩) Ya cx cap1 cy := by
  have hf := (h.cg.r _ h.fs).1
  have hg := (h.cg.r _ h.gl).1
  exact ⟨copied_funcs hp hf h.yl h.ysl fun y hy => (h.cg.r _ (h.cs y hy)).1, copied_globals hp hg, copied_lays hp h.cg.x (by rw [h.len, List.take_length]) h.sl fun z hz => (h.cg.r _ (h.ls z hz)).1, hp.m, ⟨own_cap hf, hp.ka.2⟩, ⟨own_cap hg, hp.kb.2⟩, ⟨own_cap h.cg.x, hp.kd.2⟩⟩

theorem Cg.low {base ob b : Nat} {X : Rw} {R : List Rw} {cells : Array Value} {V V' : World} (h : Cg base ob X R cells V) (hg : V.grownBy V' (some b)) (hb : b < base) (hob : base ≤ ob) : Cg base ob X R cells V' := by
  have kp : ∀ y : Rw, y.own base V → y.own base V' := fun y hy => World.ownsRow.kept hy hg (by
    cases hv : y.v.ownBlock with
    | none => exact .inl rfl
    | some c => exact .inr (by intro e; have := own_ge hy hv; cases e; omega))
  exact ⟨(hg.block ob (Array.getElem?_eq_some_iff.1 h.box).1 (by intro e; cases e; omega)).trans h.box, kp _ h.x, h.xob, fun y hy => ⟨kp _ (h.r y hy).1, (h.r y hy).2⟩, h.pw⟩
theorem J2.low {p : Pg} {base ob b : Nat} {gv : Value} {ys : List (Fc × Value)} {Xa : Option Addr} {cx : Nat} {k : Nat} {zs : List (List Int × Value)} {Ya : Option Addr} {cy : Nat} {R : List Rw} {V V' : World} (h : J2 p base ob gv ys Xa cx k zs Ya cy R V) (hg : V.grownBy V' (some b)) (hb : b < base) (hob : base ≤ ob) : J2 p base ob gv ys Xa cx k zs Ya cy R V' :=
  ⟨h.len, h.cg.low hg hb hob, h.ls, h.sl, h.fs, h.cs, h.gl, h.yl, h.ysl, h.pw⟩
theorem J2.low4 {p : Pg} {base ob b : Nat} {gv : Value} {ys : List (Fc × Value)} {Xa : Option Addr} {cx : Nat} {k : Nat} {zs : List (List Int × Value)} {Ya : Option Addr} {cy : Nat} {R : List Rw} {V : World} {v0 v1 v2 v3 : Value} (h : J2 p base ob gv ys Xa cx k zs Ya cy R V) (hb : b < base) (hob : base ≤ ob) :
    J2 p base ob gv ys Xa cx k zs Ya cy R ((((V.setCell ⟨b, 0, none⟩ v0).setCell ⟨b, 1, none⟩ v1).setCell ⟨b, 2, none⟩ v2).setCell ⟨b, 3, none⟩ v3) :=
  (((h.low (grown_set _ _ _ _) hb hob).low (grown_set _ _ _ _) hb hob).low (grown_set _ _ _ _) hb hob).low (grown_set _ _ _ _) hb hob
theorem bel_set4 {n b : Nat} {w V : World} {v0 v1 v2 v3 : Value} (h : Below n w V) (hn : n ≤ V.heap.size) (hb : n ≤ b) : Below n w ((((V.setCell ⟨b, 0, none⟩ v0).setCell ⟨b, 1, none⟩ v1).setCell ⟨b, 2, none⟩ v2).setCell ⟨b, 3, none⟩ v3) := by
  have st : ∀ (V : World) (j : Nat) (v : Value), Below n w V → n ≤ V.heap.size → Below n w (V.setCell ⟨b, j, none⟩ v) := fun V j v h hn => h.grown (grown_set _ _ _ _) hn (fun k hk => by cases hk; omega)
  exact st _ _ _ (st _ _ _ (st _ _ _ (st _ _ _ h hn) (by simpa using hn)) (by simpa using hn)) (by simpa using hn)
theorem rb_A {w4 : World} {n : Nat} {o o' : Obj} (h : w4.heap[n]? = some o) : (w4.alloc o').heap[n]? = some o :=
  ((Below.refl _ w4).alloc (Nat.le_refl _) o' |>.block n (Array.getElem?_eq_some_iff.1 h).1).trans h
theorem rb_S {w4 : World} {n ob : Nat} {o : Obj} {a b c d : Value} (h : w4.heap[n]? = some o) (hne : n ≠ ob) : ((((w4.setCell ⟨ob, 0, none⟩ a).setCell ⟨ob, 1, none⟩ b).setCell ⟨ob, 2, none⟩ c).setCell ⟨ob, 3, none⟩ d).heap[n]? = some o := by
  rw [heap_setCell_other _ _ _ _ (by simpa using hne), heap_setCell_other _ _ _ _ (by simpa using hne), heap_setCell_other _ _ _ _ (by simpa using hne), heap_setCell_other _ _ _ _ (by simpa using hne)]
  exact h
theorem infoPg : (Try.prog.info? 26).map (·.size) = some 4 := by kernel_rfl
end Go.Proofs.Ytcjkhbggongcjaa
