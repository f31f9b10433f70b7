/-
  A copied program whose operand is set.
-/
import Derived.Test.YtcjkhbggongcjaaYN
import Derived.Test.YtcjkhbggongcjaaMC
set_option linter.all false
namespace Go.Proofs.Ytcjkhbggongcjaa
open Go.RowKit C
theorem pair_of {α : Type} {r : α → α → Prop} (hs : ∀ a b, r a b → r b a) : ∀ {R : List α}, R.Pairwise r → ∀ {a b : α}, a ∈ R → b ∈ R → a ≠ b → r a b
  | [], _, _, _, ha, _, _ => by cases ha
  | c :: R, h, a, b, ha, hb, hne => by
    rw [List.pairwise_cons] at h
    rcases List.mem_cons.1 ha with e | ha
    · rcases List.mem_cons.1 hb with e2 | hb
      · exact absurd (e.trans e2.symm) hne
      · rw [e]; exact h.1 _ hb
    · rcases List.mem_cons.1 hb with e2 | hb
      · rw [e2]; exact hs _ _ (h.1 _ ha)
      · exact pair_of hs h.2 ha hb hne
theorem own_set {base : Nat} {V : World} {y : Rw} (h : y.own base V) {g j : Nat} {v : Value} (hne : y.v.ownBlock ≠ some g) : y.own base (V.setCell ⟨g, j, none⟩ v) :=
  World.ownsRow.kept h (grown_set V g j v) (.inr hne)
/-- One function of the copy. -/
theorem copied_fn {base g : Nat} {w V : World} {p : Pg} {A B D : Option Addr} {ca cb cd cx : Nat} {ys : List (Fc × Value)} (hp : PgAt w p A B D ca cb cd)
    (hx : V.ownsRow base 38 4 (.slice (some ⟨g, 0, none⟩) p.funcs.length cx) p.funcs.length ((ys.map fnC).flatten)) (yl : ys.map (·.1) = p.funcs)
    {i : Nat} (hi : i < p.funcs.length) (hj : i < ys.length) (sl : ∃ g c, ys[i].2 = .slice (some ⟨g, 0, none⟩) p.funcs[i].code.length c) (cs : (codeRow ys[i]).own base V) : FnAt V p.funcs[i] g (i * 4) := by
  obtain ⟨gA, oA, _, hA⟩ := hp.fs.at (by omega)
  obtain ⟨e1, e2⟩ := at_of_map yl
  have ey := e2 i hi hj
  have hc := own_cells (cl := fnC) (k := 4) (fun _ => rfl) (l := ys) (cap := cx) (by rw [e1]; exact hx) i hj
  have hold := hA i hi
  obtain ⟨g', c', e3⟩ := sl
  refine ⟨own_lt (y := ⟨_, _, _, _, _⟩) hx rfl, ?_, ?_, ?_, ?_, hold.s0, hold.b1, hold.b2⟩
  · have := hc 0 (by omega); simpa [ey] using this
  · have := hc 1 (by omega); simpa [ey] using this
  · have := hc 2 (by omega); simpa [ey] using this
  · unfold Rw.own codeRow at cs
    simp only [ey, e3] at cs
    obtain ⟨Ao, co, _, hco, hm, hr⟩ := hold.row
    refine ⟨_, _, by have := hc 3 (by omega); simpa [e3] using this, own_cap cs, hm, .inr ⟨g', 0, rfl, fun r hr2 => ?_⟩⟩
    obtain ⟨gO, oO, _, hO⟩ := hr.at (by omega)
    have ho := hO r hr2
    have hc2 := own_cells (cl := inC) (k := 5) (fun _ => rfl) (l := p.funcs[i].code) cs r hr2
    rw [Nat.zero_add]
    refine ⟨own_lt (y := ⟨_, _, _, _, _⟩) cs rfl, ?_, ?_, ?_, ?_, ?_, ho.b0, ho.b1, ho.b2, ho.b3, ho.b4⟩
    · have := hc2 0 (by omega); simpa using this
    · have := hc2 1 (by omega); simpa using this
    · have := hc2 2 (by omega); simpa using this
    · have := hc2 3 (by omega); simpa using this
    · have := hc2 4 (by omega); simpa using this
theorem set_cell {V : World} {g j m : Nat} {v u : Value} (h : V.cell? ⟨g, m, none⟩ = some u) : (V.setCell ⟨g, j, none⟩ v).cell? ⟨g, m, none⟩ = some (if m = j then v else u) := by
  by_cases e : m = j
  · subst e
    rw [if_pos rfl]
    exact World.cell?_setCell_same _ _ _ h
  · rw [if_neg e, ← h]
    exact World.cell?_setCell_other _ _ _ _ (by intro e2; apply e; cases e2; rfl)
/-- The function whose operand is set. -/
theorem set_fn {base g g5 c5 k : Nat} {w V : World} {p : Pg} {A B D : Option Addr} {ca cb cd cx : Nat} {ys : List (Fc × Value)} {v : Int} (hp : PgAt w p A B D ca cb cd)
    (hx : V.ownsRow base 38 4 (.slice (some ⟨g, 0, none⟩) p.funcs.length cx) p.funcs.length ((ys.map fnC).flatten)) (yl : ys.map (·.1) = p.funcs)
    {i : Nat} (hi : i < p.funcs.length) (hj : i < ys.length) (sl : ys[i].2 = .slice (some ⟨g5, 0, none⟩) p.funcs[i].code.length c5) (cs : (codeRow ys[i]).own base V) (hne : g ≠ g5) (hk : k < p.funcs[i].code.length) (hv : i64 v) :
    FnAt (V.setCell ⟨g5, k * 5 + 1, none⟩ (.int .i64 v)) { p.funcs[i] with code := p.funcs[i].code.modify k fun x => { x with a := v } } g (i * 4) := by
  have h0 := copied_fn hp hx yl hi hj ⟨_, _, sl⟩ cs
  obtain ⟨e1, e2⟩ := at_of_map yl
  have ey := e2 i hi hj
  have hc := own_cells (cl := fnC) (k := 4) (fun _ => rfl) (l := ys) (cap := cx) (by rw [e1]; exact hx) i hj
  have keep : ∀ o u, V.cell? ⟨g, o, none⟩ = some u → (V.setCell ⟨g5, k * 5 + 1, none⟩ (.int .i64 v)).cell? ⟨g, o, none⟩ = some u := fun o u h => by
    rw [← h]; exact World.cell?_setCell_other _ _ _ _ (by intro e; cases e; exact hne rfl)
  unfold Rw.own codeRow at cs
  simp only [ey, sl] at cs
  obtain ⟨gA, oA, _, hA⟩ := hp.fs.at (by omega)
  obtain ⟨Ao, co, _, hco, hm, hr⟩ := (hA i hi).row
  refine ⟨by simpa using h0.lt, keep _ _ h0.c0, keep _ _ h0.c1, keep _ _ h0.c2, ⟨some ⟨g5, 0, none⟩, c5, keep _ _ (by have := hc 3 (by omega); simpa [sl] using this), ?_, ?_, .inr ⟨g5, 0, rfl, fun r hr2 => ?_⟩⟩, h0.s0, h0.b1, h0.b2⟩
  · simpa using own_cap cs
  · simpa using hm
  · have hr3 : r < p.funcs[i].code.length := by simpa using hr2
    obtain ⟨gO, oO, _, hO⟩ := hr.at (by omega)
    have ho := hO r hr3
    have hc2 := own_cells (cl := inC) (k := 5) (fun _ => rfl) (l := p.funcs[i].code) cs r hr3
    have c0 : _ = some _ := set_cell (m := r * 5) (j := k * 5 + 1) (v := .int .i64 v) (hc2 0 (by omega))
    have c1 := set_cell (j := k * 5 + 1) (v := .int .i64 v) (hc2 1 (by omega))
    have c2 := set_cell (j := k * 5 + 1) (v := .int .i64 v) (hc2 2 (by omega))
    have c3 := set_cell (j := k * 5 + 1) (v := .int .i64 v) (hc2 3 (by omega))
    have c4 := set_cell (j := k * 5 + 1) (v := .int .i64 v) (hc2 4 (by omega))
    have hlt : g5 < (V.setCell ⟨g5, k * 5 + 1, none⟩ (.int .i64 v)).heap.size := by have := own_lt (y := ⟨_, _, _, _, _⟩) cs rfl; simpa using this
    rw [if_neg (by omega)] at c0 c2 c3 c4
    rw [Nat.zero_add]
    by_cases e : r = k
    · subst e
      rw [if_pos rfl] at c1
      simp only [List.getElem_modify, if_pos]
      exact ⟨hlt, c0, c1, c2, c3, c4, ho.b0, hv, ho.b2, ho.b3, ho.b4⟩
    · rw [if_neg (by omega)] at c1
      simp only [List.getElem_modify, if_neg (fun h : k = r => e h.symm)]
      exact ⟨hlt, c0, c1, c2, c3, c4, ho.b0, ho.b1, ho.b2, ho.b3, ho.b4⟩
/-- The program whose operand is set. -/
theorem set_pg {base g1 cap1 g5 c5 k : Nat} {w V : World} {p : Pg} {A B D : Option Addr} {ca cb cd cx cy : Nat} {Xa Ya : Option Addr} {ys : List (Fc × Value)} {zs : List (List Int × Value)} {v : Int} (hp : PgAt w p A B D ca cb cd)
    (hf : V.ownsRow base 38 4 (.slice Xa p.funcs.length cx) p.funcs.length ((ys.map fnC).flatten)) (yl : ys.map (·.1) = p.funcs)
    (sl : ∀ y ∈ ys, ∃ g c, y.2 = .slice (some ⟨g, 0, none⟩) y.1.code.length c) (cs : ∀ y ∈ ys, (codeRow y).own base V)
    (hg : V.ownsRow base 51 2 (.slice (some ⟨g1, 0, none⟩) p.globals.length cap1) p.globals.length ((p.globals.map glC).flatten))
    (hl : V.ownsRow base 33 1 (.slice Ya p.layouts.length cy) p.layouts.length ((zs.map lyC).flatten)) (zl : zs.map (·.1) = p.layouts)
    (zsl : ∀ z ∈ zs, ∃ g c, z.2 = .slice (some ⟨g, 0, none⟩) z.1.length c) (ls : ∀ z ∈ zs, (layRow z).own base V)
    {i : Nat} (hi : i < p.funcs.length) (hj : i < ys.length) (esl : ys[i].2 = .slice (some ⟨g5, 0, none⟩) p.funcs[i].code.length c5) (hk : k < p.funcs[i].code.length) (hv : i64 v)
    (d1 : (Value.slice Xa p.funcs.length cx).ownBlock ≠ some g5) (d2 : g1 ≠ g5) (d3 : (Value.slice Ya p.layouts.length cy).ownBlock ≠ some g5) (d4 : ∀ z ∈ zs, z.2.ownBlock ≠ some g5) (d5 : ∀ j (hj : j < ys.length), j ≠ i → ys[j].2.ownBlock ≠ some g5) :
    PgAt (V.setCell ⟨g5, k * 5 + 1, none⟩ (.int .i64 v)) (setA p i k v) Xa (some ⟨g1, 0, none⟩) Ya cx cap1 cy := by
  obtain ⟨e1, e2⟩ := at_of_map yl
  have hfc := own_cap hf
  obtain ⟨g, rfl, hcap, hlt⟩ := own_addr hf (by omega)
  have hne : g ≠ g5 := by intro e; apply d1; rw [e]; rfl
  have hF : (setA p i k v).funcs.length = p.funcs.length := by simp [setA]
  have hf' := own_set (y := ⟨_, _, _, _, _⟩) (j := k * 5 + 1) (v := .int .i64 v) hf d1
  refine ⟨.inr ⟨g, 0, rfl, fun j hj2 => ?_⟩, copied_globals (p := p) hp (own_set (y := ⟨_, _, _, _, _⟩) hg (by intro e; exact d2 (by simpa [Value.ownBlock] using e))), copied_lays (p := p) hp (own_set (y := ⟨_, _, _, _, _⟩) hl d3) zl zsl fun z hz => own_set (ls z hz) (d4 z hz), hp.m, ⟨by rw [hF]; exact hfc, by rw [hF]; exact hp.ka.2⟩, ⟨own_cap hg, hp.kb.2⟩, ⟨own_cap hl, hp.kd.2⟩⟩
  rw [hF] at hj2
  have hjy : j < ys.length := by omega
  rw [Nat.zero_add]
  have eF : (setA p i k v).funcs[j]'(by rw [hF]; exact hj2) = if i = j then { p.funcs[j] with code := p.funcs[j].code.modify k fun x => { x with a := v } } else p.funcs[j] := by
    simp [setA, List.getElem_modify]
  rw [eF]
  by_cases e : i = j
  · subst e
    rw [if_pos rfl]
    exact set_fn hp hf yl hi hj esl (cs _ (List.getElem_mem hj)) hne hk hv
  · rw [if_neg e]
    obtain ⟨g', c', e3⟩ := sl _ (List.getElem_mem hjy)
    refine copied_fn hp hf' yl hj2 hjy ⟨g', c', by rw [e3, e2 j hj2 hjy]⟩ (own_set (cs _ (List.getElem_mem hjy)) (d5 j hjy fun h => e h.symm))
theorem codeRow_far {R : List Rw} {y : Fc × Value} {r : Rw} {x : Nat} (hp : R.Pairwise fun a b => ∀ x, a.v.ownBlock = some x → b.v.ownBlock ≠ some x) (hy : codeRow y ∈ R) (hr : r ∈ R) (ht : r.t ≠ 44) (hx : y.2.ownBlock = some x) : r.v.ownBlock ≠ some x :=
  pair_of (r := fun a b => ∀ x, a.v.ownBlock = some x → b.v.ownBlock ≠ some x) (fun a b h x hb ha => h x ha hb) hp hy hr (fun e => ht (by rw [← e]; rfl)) x hx
/-- In a copied program, an operand may be set. -/
theorem J2.mut {p : Pg} {base ob g1 cap1 : Nat} {w : World} {A B D : Option Addr} {ca cb cd : Nat} {ys : List (Fc × Value)} {Xa : Option Addr} {cx : Nat} {zs : List (List Int × Value)} {Ya : Option Addr} {cy : Nat} {R : List Rw} {wr : World} (hp : PgAt w p A B D ca cb cd)
    (h : J2 p base ob (.slice (some ⟨g1, 0, none⟩) p.globals.length cap1) ys Xa cx p.layouts.length zs Ya cy R wr) {i k : Nat} (hi : i < p.funcs.length) (hk : k < p.funcs[i].code.length) :
    ∃ g g5 c5, Xa = some ⟨g, 0, none⟩ ∧ wr.cell? ⟨g, i * 4 + 3, none⟩ = some (.slice (some ⟨g5, 0, none⟩) p.funcs[i].code.length c5) ∧ base ≤ g5 ∧ g5 < wr.heap.size ∧
      ∀ V, Below wr.heap.size wr V → V.cell? ⟨g5, k * 5 + 1, none⟩ = some (.int .i64 p.funcs[i].code[k].a) ∧ V.frozen? ⟨g5, k * 5 + 1, none⟩ = false ∧
        ∀ v, i64 v → PgAt (V.setCell ⟨g5, k * 5 + 1, none⟩ (.int .i64 v)) (setA p i k v) Xa (some ⟨g1, 0, none⟩) Ya cx cap1 cy := by
  obtain ⟨e1, e2⟩ := at_of_map h.yl
  have hj : i < ys.length := by omega
  have hf := (h.cg.r _ h.fs).1
  have hg := (h.cg.r _ h.gl).1
  obtain ⟨g, hXa, _, _⟩ := own_addr hf (by omega)
  obtain ⟨g5, c5, esl⟩ := h.ysl _ (List.getElem_mem hj)
  have ey := e2 i hi hj
  rw [ey] at esl
  have hcy := h.cs _ (List.getElem_mem hj)
  have hcr := (h.cg.r _ hcy).1
  have hb : ys[i].2.ownBlock = some g5 := by rw [esl]; rfl
  have hc3 := own_cells (cl := fnC) (k := 4) (fun _ => rfl) (l := ys) (cap := cx) (g := g) (by rw [e1, ← hXa]; exact hf) i hj 3 (by omega)
  refine ⟨g, g5, c5, hXa, by simpa [esl] using hc3, own_ge hcr hb, own_lt hcr hb, fun V hV => ?_⟩
  have hcV : V.ownsRow base 44 5 (.slice (some ⟨g5, 0, none⟩) p.funcs[i].code.length c5) p.funcs[i].code.length ((p.funcs[i].code.map inC).flatten) := by
    have := own_keepN hcr hV
    unfold codeRow at this
    simpa only [ey, esl] using this
  have hc1 := own_cells (cl := inC) (k := 5) (fun _ => rfl) (l := p.funcs[i].code) hcV k hk 1 (by omega)
  refine ⟨by simpa using hc1, ?_, fun v hv => ?_⟩
  · rcases hcV.2 with ⟨e, _⟩ | ⟨gq, cap, cur, e, _, hh, _⟩
    · cases e
    · cases e
      simp [World.frozen?, hh]
  · refine set_pg hp (own_keepN hf hV) h.yl h.ysl (fun y hy => own_keepN (h.cg.r _ (h.cs y hy)).1 hV) (own_keepN hg hV) (own_keepN h.cg.x hV) (by rw [h.len, List.take_length]) h.sl (fun z hz => own_keepN (h.cg.r _ (h.ls z hz)).1 hV) hi hj esl hk hv ?_ ?_ ?_ ?_ ?_
    · exact codeRow_far h.cg.pw hcy h.fs (by show (38 : Nat) ≠ 44; decide) hb
    · have := codeRow_far h.cg.pw hcy h.gl (by show (51 : Nat) ≠ 44; decide) hb
      intro e; apply this; rw [← e]; rfl
    · exact ((h.cg.r _ hcy).2 g5 hb).2
    · intro z hz
      exact codeRow_far h.cg.pw hcy (h.ls z hz) (by show (3 : Nat) ≠ 44; decide) hb
    · intro j hj2 hne e
      rcases Nat.lt_or_gt_of_ne hne with hlt | hlt
      · exact (List.pairwise_iff_getElem.1 h.pw) j i hj2 hj hlt g5 e hb
      · exact (List.pairwise_iff_getElem.1 h.pw) i j hj hj2 hlt g5 hb e
end Go.Proofs.Ytcjkhbggongcjaa
