/-
  The walk of the specification's Copy, once more: what it hands back may be written to.
-/
import Derived.Test.YtcjkhbggongcjaaYM
import Derived.Deep.RegionHeld3
set_option linter.all false
namespace Go.Proofs.Ytcjkhbggongcjaa
open Go.RowKit C
theorem top3 (W : World) (o1 o2 : Obj) : ((W.alloc o1).alloc o2).heap[W.heap.size]? = some o1 ∧ ((W.alloc o1).alloc o2).heap[W.heap.size + 1]? = some o2 := ⟨heap2a W o1 o2, heap2 W o1 o2⟩
/-- What Copy hands back. -/
def CpMut (p : Pg) (w : World) (e : Ending) (w' : World) : Prop := ∃ A B D ca cb cd, e = .returned (pv p A B D ca cb cd) ∧ PgAt w' p A B D ca cb cd ∧ Below w.heap.size w w' ∧
  ∀ i k (hi : i < p.funcs.length) (hk : k < p.funcs[i].code.length), ∃ g g5 c5, A = some ⟨g, 0, none⟩ ∧ w'.cell? ⟨g, i * 4 + 3, none⟩ = some (.slice (some ⟨g5, 0, none⟩) p.funcs[i].code.length c5) ∧ w.heap.size + 2 ≤ g5 ∧ g5 < w'.heap.size ∧
    ∀ V, Below w'.heap.size w' V → V.cell? ⟨g5, k * 5 + 1, none⟩ = some (.int .i64 p.funcs[i].code[k].a) ∧ V.frozen? ⟨g5, k * 5 + 1, none⟩ = false ∧
      ∀ v, i64 v → PgAt (V.setCell ⟨g5, k * 5 + 1, none⟩ (.int .i64 v)) (setA p i k v) A B D ca cb cd
set_option maxRecDepth 100000 in
set_option maxHeartbeats 32000000 in
theorem copy_mut (p : Pg) (A B D : Option Addr) (ca cb cd : Nat) (w : World) (hp : PgAt w p A B D ca cb cd) (hz : Sz p)  : Calls Try.prog 15 #[pv p A B D ca cb cd] w (CpMut p w) := by
  have HP := Lib.hid hp
  have HZ := Lib.hid hz
  have HN := Lib.hid ((B1.new p A B D ca cb cd w).keep (below1 _ (.cells #[.slice none 0 0, .slice none 0 0, .slice none 0 0, .int .i64 0] 26)))
  have hzg := hz.g
  obtain ⟨iG, hiG, hzG0, hzG1, hzG2⟩ := info_parts infoGl
  have hh0 := Lib.hid (top3 w (.cells #[.slice A p.funcs.length ca, .slice B p.globals.length cb, .slice D p.layouts.length cd, .int .i64 p.main] 26) (.cells #[.slice none 0 0, .slice none 0 0, .slice none 0 0, .int .i64 0] 26))
  have HB1 := Lib.hid (below2 w (.cells #[.slice A p.funcs.length ca, .slice B p.globals.length cb, .slice D p.layouts.length cd, .int .i64 p.main] 26) (.cells #[.slice none 0 0, .slice none 0 0, .slice none 0 0, .int .i64 0] 26))
  have hzf := hz.f
  have hzl := hz.l
  obtain ⟨i0, hi0, hz00, hz01, hz02⟩ := info_parts infoI
  obtain ⟨iI, hiI, hzI0, hzI1, hzI2⟩ := info_parts infoIn
  obtain ⟨iF, hiF, hzF0, hzF1, hzF2⟩ := info_parts infoFn
  obtain ⟨iL, hiL, hzL0, hzL1, hzL2⟩ := info_parts infoLy
  clear hp hz
  have hS0 : (((w.alloc (.cells #[.slice A p.funcs.length ca, .slice B p.globals.length cb, .slice D p.layouts.length cd, .int .i64 p.main] 26)).alloc (.cells #[.slice none 0 0, .slice none 0 0, .slice none 0 0, .int .i64 0] 26))).drew.cell? ⟨w.heap.size, 0, none⟩ = some (.slice A p.funcs.length ca) ∧ (((w.alloc (.cells #[.slice A p.funcs.length ca, .slice B p.globals.length cb, .slice D p.layouts.length cd, .int .i64 p.main] 26)).alloc (.cells #[.slice none 0 0, .slice none 0 0, .slice none 0 0, .int .i64 0] 26))).drew.cell? ⟨w.heap.size, 1, none⟩ = some (.slice B p.globals.length cb) ∧ (((w.alloc (.cells #[.slice A p.funcs.length ca, .slice B p.globals.length cb, .slice D p.layouts.length cd, .int .i64 p.main] 26)).alloc (.cells #[.slice none 0 0, .slice none 0 0, .slice none 0 0, .int .i64 0] 26))).drew.cell? ⟨w.heap.size, 2, none⟩ = some (.slice D p.layouts.length cd) ∧ (((w.alloc (.cells #[.slice A p.funcs.length ca, .slice B p.globals.length cb, .slice D p.layouts.length cd, .int .i64 p.main] 26)).alloc (.cells #[.slice none 0 0, .slice none 0 0, .slice none 0 0, .int .i64 0] 26))).drew.cell? ⟨w.heap.size, 3, none⟩ = some (.int .i64 p.main) ∧ Below w.heap.size w ((((w.alloc (.cells #[.slice A p.funcs.length ca, .slice B p.globals.length cb, .slice D p.layouts.length cd, .int .i64 p.main] 26)).alloc (.cells #[.slice none 0 0, .slice none 0 0, .slice none 0 0, .int .i64 0] 26))).drew) := B1.drew HN.out
  have KA : Hid (∀ (V : World) (o : Obj), (V.cell? ⟨w.heap.size, 0, none⟩ = some (.slice A p.funcs.length ca) ∧ V.cell? ⟨w.heap.size, 1, none⟩ = some (.slice B p.globals.length cb) ∧ V.cell? ⟨w.heap.size, 2, none⟩ = some (.slice D p.layouts.length cd) ∧ V.cell? ⟨w.heap.size, 3, none⟩ = some (.int .i64 p.main) ∧ Below w.heap.size w (V)) → ((V.alloc o).cell? ⟨w.heap.size, 0, none⟩ = some (.slice A p.funcs.length ca) ∧ (V.alloc o).cell? ⟨w.heap.size, 1, none⟩ = some (.slice B p.globals.length cb) ∧ (V.alloc o).cell? ⟨w.heap.size, 2, none⟩ = some (.slice D p.layouts.length cd) ∧ (V.alloc o).cell? ⟨w.heap.size, 3, none⟩ = some (.int .i64 p.main) ∧ Below w.heap.size w ((V.alloc o)))) := Lib.hid fun V o h => B1.keep (p := p) (A := A) (B := B) (D := D) (ca := ca) (cb := cb) (cd := cd) (w := w) h (below1 _ _)
  have KD : Hid (∀ (V : World) (o : Obj), (V.drew.cell? ⟨w.heap.size, 0, none⟩ = some (.slice A p.funcs.length ca) ∧ V.drew.cell? ⟨w.heap.size, 1, none⟩ = some (.slice B p.globals.length cb) ∧ V.drew.cell? ⟨w.heap.size, 2, none⟩ = some (.slice D p.layouts.length cd) ∧ V.drew.cell? ⟨w.heap.size, 3, none⟩ = some (.int .i64 p.main) ∧ Below w.heap.size w (V.drew)) → ((V.alloc o).drew.cell? ⟨w.heap.size, 0, none⟩ = some (.slice A p.funcs.length ca) ∧ (V.alloc o).drew.cell? ⟨w.heap.size, 1, none⟩ = some (.slice B p.globals.length cb) ∧ (V.alloc o).drew.cell? ⟨w.heap.size, 2, none⟩ = some (.slice D p.layouts.length cd) ∧ (V.alloc o).drew.cell? ⟨w.heap.size, 3, none⟩ = some (.int .i64 p.main) ∧ Below w.heap.size w ((V.alloc o).drew))) := Lib.hid fun V o h => KA.out V.drew o h
  have KS : Hid (∀ (V : World) (b j : Nat) (v : Value), w.heap.size < b → (V.cell? ⟨w.heap.size, 0, none⟩ = some (.slice A p.funcs.length ca) ∧ V.cell? ⟨w.heap.size, 1, none⟩ = some (.slice B p.globals.length cb) ∧ V.cell? ⟨w.heap.size, 2, none⟩ = some (.slice D p.layouts.length cd) ∧ V.cell? ⟨w.heap.size, 3, none⟩ = some (.int .i64 p.main) ∧ Below w.heap.size w (V)) → ((V.setCell ⟨b, j, none⟩ v).cell? ⟨w.heap.size, 0, none⟩ = some (.slice A p.funcs.length ca) ∧ (V.setCell ⟨b, j, none⟩ v).cell? ⟨w.heap.size, 1, none⟩ = some (.slice B p.globals.length cb) ∧ (V.setCell ⟨b, j, none⟩ v).cell? ⟨w.heap.size, 2, none⟩ = some (.slice D p.layouts.length cd) ∧ (V.setCell ⟨b, j, none⟩ v).cell? ⟨w.heap.size, 3, none⟩ = some (.int .i64 p.main) ∧ Below w.heap.size w ((V.setCell ⟨b, j, none⟩ v)))) := Lib.hid fun V b j v hb h => B1.setC (p := p) (A := A) (B := B) (D := D) (ca := ca) (cb := cb) (cd := cd) (w := w) h hb
  have KG : Hid (∀ (V V' : World) (row : Option Nat), V.grownBy V' row → w.heap.size + 1 ≤ V.heap.size → (∀ q, row = some q → w.heap.size + 1 ≤ q) → (V.cell? ⟨w.heap.size, 0, none⟩ = some (.slice A p.funcs.length ca) ∧ V.cell? ⟨w.heap.size, 1, none⟩ = some (.slice B p.globals.length cb) ∧ V.cell? ⟨w.heap.size, 2, none⟩ = some (.slice D p.layouts.length cd) ∧ V.cell? ⟨w.heap.size, 3, none⟩ = some (.int .i64 p.main) ∧ Below w.heap.size w (V)) → (V'.cell? ⟨w.heap.size, 0, none⟩ = some (.slice A p.funcs.length ca) ∧ V'.cell? ⟨w.heap.size, 1, none⟩ = some (.slice B p.globals.length cb) ∧ V'.cell? ⟨w.heap.size, 2, none⟩ = some (.slice D p.layouts.length cd) ∧ V'.cell? ⟨w.heap.size, 3, none⟩ = some (.int .i64 p.main) ∧ Below w.heap.size w (V'))) := Lib.hid fun V V' row hg hs hr h => B1.grownK (p := p) (A := A) (B := B) (D := D) (ca := ca) (cb := cb) (cd := cd) (w := w) h hg hs hr
  have ownA : Hid (((((w.alloc (.cells #[.slice A p.funcs.length ca, .slice B p.globals.length cb, .slice D p.layouts.length cd, .int .i64 p.main] 26)).alloc (.cells #[.slice none 0 0, .slice none 0 0, .slice none 0 0, .int .i64 0] 26)).alloc (.cells #[] 51)).drew).ownsRow (w.heap.size + 2) 51 2 (.slice (some ⟨w.heap.size + 2, 0, none⟩) 0 0) 0 []) := Lib.hid (own_e (heap_new2 w _ _ (.cells #[] 51)) (by omega))
  have newsA : Hid (0 < p.globals.length → ∃ ad, B = some ad ∧ ∀ j u, ((p.globals.map glC).flatten)[j]? = some u → ((((w.alloc (.cells #[.slice A p.funcs.length ca, .slice B p.globals.length cb, .slice D p.layouts.length cd, .int .i64 p.main] 26)).alloc (.cells #[.slice none 0 0, .slice none 0 0, .slice none 0 0, .int .i64 0] 26)).alloc (.cells #[] 51)).drew).cell? (ad.add j) = some u) := Lib.hid (by
    intro hg
    obtain ⟨gG, oG, hB, hG⟩ := HP.out.gs.at hg
    exact ⟨_, hB, news_row (cl := glC) (k := 2) (fun _ => rfl) (by omega) gl_cells (fun i hi => (hG i hi).below (Below.drew (HB1.out.alloc HB1.out.size (.cells #[] 51))))⟩)
  have sizeA : Hid (((((w.alloc (.cells #[.slice A p.funcs.length ca, .slice B p.globals.length cb, .slice D p.layouts.length cd, .int .i64 p.main] 26)).alloc (.cells #[.slice none 0 0, .slice none 0 0, .slice none 0 0, .int .i64 0] 26)).alloc (.cells #[] 51)).drew).heap.size = w.heap.size + 3) := Lib.hid (by simp)
  have rbxA : Hid (((((w.alloc (.cells #[.slice A p.funcs.length ca, .slice B p.globals.length cb, .slice D p.layouts.length cd, .int .i64 p.main] 26)).alloc (.cells #[.slice none 0 0, .slice none 0 0, .slice none 0 0, .int .i64 0] 26)).alloc (.cells #[] 51)).drew).heap[w.heap.size + 1]? = some (.cells #[.slice none 0 0, .slice none 0 0, .slice none 0 0, .int .i64 0] 26)) := Lib.hid (rb_A (heap2 w _ _))
  have ownB : Hid ((((((w.alloc (.cells #[.slice A p.funcs.length ca, .slice B p.globals.length cb, .slice D p.layouts.length cd, .int .i64 p.main] 26)).alloc (.cells #[.slice none 0 0, .slice none 0 0, .slice none 0 0, .int .i64 0] 26)).alloc (.cells #[] 51)).alloc (.cells #[.slice none 0 0, .slice none 0 0, .slice none 0 0, .int .i64 0] 26)).drew).ownsRow (w.heap.size + 2) 51 2 (.slice (some ⟨w.heap.size + 2, 0, none⟩) 0 0) 0 []) := Lib.hid (own_e (heap_mid2 w _ _ (.cells #[] 51) (.cells #[.slice none 0 0, .slice none 0 0, .slice none 0 0, .int .i64 0] 26)) (by omega))
  have newsB : Hid (0 < p.globals.length → ∃ ad, B = some ad ∧ ∀ j u, ((p.globals.map glC).flatten)[j]? = some u → (((((w.alloc (.cells #[.slice A p.funcs.length ca, .slice B p.globals.length cb, .slice D p.layouts.length cd, .int .i64 p.main] 26)).alloc (.cells #[.slice none 0 0, .slice none 0 0, .slice none 0 0, .int .i64 0] 26)).alloc (.cells #[] 51)).alloc (.cells #[.slice none 0 0, .slice none 0 0, .slice none 0 0, .int .i64 0] 26)).drew).cell? (ad.add j) = some u) := Lib.hid (by
    intro hg
    obtain ⟨gG, oG, hB, hG⟩ := HP.out.gs.at hg
    exact ⟨_, hB, news_row (cl := glC) (k := 2) (fun _ => rfl) (by omega) gl_cells (fun i hi => (hG i hi).below (Below.drew ((HB1.out.alloc HB1.out.size (.cells #[] 51)).alloc (by first | (simp; done) | (simp; omega) | omega) (.cells #[.slice none 0 0, .slice none 0 0, .slice none 0 0, .int .i64 0] 26))))⟩)
  have sizeB : Hid ((((((w.alloc (.cells #[.slice A p.funcs.length ca, .slice B p.globals.length cb, .slice D p.layouts.length cd, .int .i64 p.main] 26)).alloc (.cells #[.slice none 0 0, .slice none 0 0, .slice none 0 0, .int .i64 0] 26)).alloc (.cells #[] 51)).alloc (.cells #[.slice none 0 0, .slice none 0 0, .slice none 0 0, .int .i64 0] 26)).drew).heap.size = w.heap.size + 4) := Lib.hid (by simp)
  have rbxB : Hid ((((((w.alloc (.cells #[.slice A p.funcs.length ca, .slice B p.globals.length cb, .slice D p.layouts.length cd, .int .i64 p.main] 26)).alloc (.cells #[.slice none 0 0, .slice none 0 0, .slice none 0 0, .int .i64 0] 26)).alloc (.cells #[] 51)).alloc (.cells #[.slice none 0 0, .slice none 0 0, .slice none 0 0, .int .i64 0] 26)).drew).heap[w.heap.size + 1]? = some (.cells #[.slice none 0 0, .slice none 0 0, .slice none 0 0, .int .i64 0] 26)) := Lib.hid (rb_A (rb_A (heap2 w _ _)))
  have ownC : Hid ((((((w.alloc (.cells #[.slice A p.funcs.length ca, .slice B p.globals.length cb, .slice D p.layouts.length cd, .int .i64 p.main] 26)).alloc (.cells #[.slice none 0 0, .slice none 0 0, .slice none 0 0, .int .i64 0] 26)).alloc (.cells #[.slice none 0 0, .slice none 0 0, .slice none 0 0, .int .i64 0] 26)).alloc (.cells #[] 51)).drew).ownsRow (w.heap.size + 2) 51 2 (.slice (some ⟨w.heap.size + 3, 0, none⟩) 0 0) 0 []) := Lib.hid (own_e (heap_new3 w _ _ (.cells #[.slice none 0 0, .slice none 0 0, .slice none 0 0, .int .i64 0] 26) (.cells #[] 51)) (by omega))
  have newsC : Hid (0 < p.globals.length → ∃ ad, B = some ad ∧ ∀ j u, ((p.globals.map glC).flatten)[j]? = some u → (((((w.alloc (.cells #[.slice A p.funcs.length ca, .slice B p.globals.length cb, .slice D p.layouts.length cd, .int .i64 p.main] 26)).alloc (.cells #[.slice none 0 0, .slice none 0 0, .slice none 0 0, .int .i64 0] 26)).alloc (.cells #[.slice none 0 0, .slice none 0 0, .slice none 0 0, .int .i64 0] 26)).alloc (.cells #[] 51)).drew).cell? (ad.add j) = some u) := Lib.hid (by
    intro hg
    obtain ⟨gG, oG, hB, hG⟩ := HP.out.gs.at hg
    exact ⟨_, hB, news_row (cl := glC) (k := 2) (fun _ => rfl) (by omega) gl_cells (fun i hi => (hG i hi).below (Below.drew ((HB1.out.alloc HB1.out.size (.cells #[.slice none 0 0, .slice none 0 0, .slice none 0 0, .int .i64 0] 26)).alloc (by first | (simp; done) | (simp; omega) | omega) (.cells #[] 51))))⟩)
  have sizeC : Hid ((((((w.alloc (.cells #[.slice A p.funcs.length ca, .slice B p.globals.length cb, .slice D p.layouts.length cd, .int .i64 p.main] 26)).alloc (.cells #[.slice none 0 0, .slice none 0 0, .slice none 0 0, .int .i64 0] 26)).alloc (.cells #[.slice none 0 0, .slice none 0 0, .slice none 0 0, .int .i64 0] 26)).alloc (.cells #[] 51)).drew).heap.size = w.heap.size + 4) := Lib.hid (by simp)
  have rbxC : Hid ((((((w.alloc (.cells #[.slice A p.funcs.length ca, .slice B p.globals.length cb, .slice D p.layouts.length cd, .int .i64 p.main] 26)).alloc (.cells #[.slice none 0 0, .slice none 0 0, .slice none 0 0, .int .i64 0] 26)).alloc (.cells #[.slice none 0 0, .slice none 0 0, .slice none 0 0, .int .i64 0] 26)).alloc (.cells #[] 51)).drew).heap[w.heap.size + 1]? = some (.cells #[.slice none 0 0, .slice none 0 0, .slice none 0 0, .int .i64 0] 26)) := Lib.hid (rb_A (rb_A (heap2 w _ _)))
  go_enter Try.func15, Try.ntmps15
  go_wp2_with fail
  go_region_held3 (fun w' => w'.cell? ⟨w.heap.size, 0, none⟩ = some (.slice A p.funcs.length ca) ∧ w'.cell? ⟨w.heap.size, 1, none⟩ = some (.slice B p.globals.length cb) ∧ w'.cell? ⟨w.heap.size, 2, none⟩ = some (.slice D p.layouts.length cd) ∧ w'.cell? ⟨w.heap.size, 3, none⟩ = some (.int .i64 p.main) ∧ Below w.heap.size w w')
    (first
        | (with_reducible assumption)
        | (with_reducible exact HS4.out)
        | (with_reducible exact KA.out _ _ HS4.out)
        | ((with_reducible refine KD.out _ _ ?_); with_reducible assumption)
        | ((with_reducible refine KA.out _ _ ?_); with_reducible assumption)
        | ((with_reducible refine KG.out _ _ _ hgrow1 (by first | (simp; done) | (simp; omega) | omega) (by intro q hq; simp [Value.ownBlock] at hq; omega) ?_); with_reducible assumption)
        | ((with_reducible refine KS.out _ _ _ _ ?_ (KS.out _ _ _ _ ?_ (KS.out _ _ _ _ ?_ (KS.out _ _ _ _ ?_ ?_)))); (omega); (omega); (omega); (omega); with_reducible assumption))
    (first
      | (refine step_append_e _ (by rfl) _ _ _ (by rfl) (w.heap.size + 2) 51 iG _ 2 24 Try.underlying23 hiG hzG0 hzG1 hzG2 rfl (by omega) (w.heap.size + 2) (by rfl) ownA.out B p.globals.length cb ((p.globals.map glC).flatten) (by rfl) (flat_len (cl := glC) (k := 2) (fun _ => rfl) _) newsA.out (one_flat (cl := glC) gl_one) (by unfold maxLen; omega) (by omega) (by rw [sizeA.out]; omega) (w.heap.size + 3) sizeA.out ?_; intro g1 cap1 w4 hown1 hgrow1 hat1 hlt1; have HS4 := Lib.hid (KG.out _ _ _ hgrow1 (by rw [sizeA.out]; omega) (by intro q hq; have hq2 := Option.some.inj hq; omega) (by with_reducible assumption)); have hs4 := hgrow1.size; rw [sizeA.out] at hs4; have HR4 := Lib.hid ((hgrow1.block (w.heap.size + 1) (by rw [sizeA.out]; omega) (by intro e; have e2 := Option.some.inj e; omega)).trans rbxA.out); have HCG := Lib.hid (cg_new (base := w.heap.size + 2) (g := g1) (y := (glRow p (.slice (some ⟨g1, 0, none⟩) p.globals.length cap1))) (main := .int .i64 p.main) rfl hown1))
      | (refine step_append_e _ (by rfl) _ _ _ (by rfl) (w.heap.size + 2) 51 iG _ 2 24 Try.underlying23 hiG hzG0 hzG1 hzG2 rfl (by omega) (w.heap.size + 2) (by rfl) ownB.out B p.globals.length cb ((p.globals.map glC).flatten) (by rfl) (flat_len (cl := glC) (k := 2) (fun _ => rfl) _) newsB.out (one_flat (cl := glC) gl_one) (by unfold maxLen; omega) (by omega) (by rw [sizeB.out]; omega) (w.heap.size + 4) sizeB.out ?_; intro g1 cap1 w4 hown1 hgrow1 hat1 hlt1; have HS4 := Lib.hid (KG.out _ _ _ hgrow1 (by rw [sizeB.out]; omega) (by intro q hq; have hq2 := Option.some.inj hq; omega) (by with_reducible assumption)); have hs4 := hgrow1.size; rw [sizeB.out] at hs4; have HR4 := Lib.hid ((hgrow1.block (w.heap.size + 1) (by rw [sizeB.out]; omega) (by intro e; have e2 := Option.some.inj e; omega)).trans rbxB.out); have HBX := Lib.hid ((hgrow1.block (w.heap.size + 3) (by first | (simp; done) | (simp; omega) | omega) (by simp [Value.ownBlock])).trans (heap_new3 w _ _ (.cells #[] 51) (.cells #[.slice none 0 0, .slice none 0 0, .slice none 0 0, .int .i64 0] 26))); obtain ⟨⟨zb0, zb1, zb2, zb3⟩, fb0, fb1, fb2, fb3⟩ := cells4 HBX.out; have HCG := Lib.hid (cg_set (base := w.heap.size + 2) (g := g1) (ob := w.heap.size + 1 + 1 + 1) (y := (glRow p (.slice (some ⟨g1, 0, none⟩) p.globals.length cap1))) (main := .int .i64 p.main) rfl (by omega) HBX.out hown1))
      | (refine step_append_e _ (by rfl) _ _ _ (by rfl) (w.heap.size + 2) 51 iG _ 2 24 Try.underlying23 hiG hzG0 hzG1 hzG2 rfl (by omega) (w.heap.size + 3) (by rfl) ownC.out B p.globals.length cb ((p.globals.map glC).flatten) (by rfl) (flat_len (cl := glC) (k := 2) (fun _ => rfl) _) newsC.out (one_flat (cl := glC) gl_one) (by unfold maxLen; omega) (by omega) (by rw [sizeC.out]; omega) (w.heap.size + 4) sizeC.out ?_; intro g1 cap1 w4 hown1 hgrow1 hat1 hlt1; have HS4 := Lib.hid (KG.out _ _ _ hgrow1 (by rw [sizeC.out]; omega) (by intro q hq; have hq2 := Option.some.inj hq; omega) (by with_reducible assumption)); have hs4 := hgrow1.size; rw [sizeC.out] at hs4; have HR4 := Lib.hid ((hgrow1.block (w.heap.size + 1) (by rw [sizeC.out]; omega) (by intro e; have e2 := Option.some.inj e; omega)).trans rbxC.out); have HBX := Lib.hid ((hgrow1.block (w.heap.size + 2) (by first | (simp; done) | (simp; omega) | omega) (by simp [Value.ownBlock])).trans (heap_mid2 w _ _ (.cells #[.slice none 0 0, .slice none 0 0, .slice none 0 0, .int .i64 0] 26) (.cells #[] 51))); obtain ⟨⟨zb0, zb1, zb2, zb3⟩, fb0, fb1, fb2, fb3⟩ := cells4 HBX.out; have HCG := Lib.hid (cg_set (base := w.heap.size + 2) (g := g1) (ob := w.heap.size + 1 + 1) (y := (glRow p (.slice (some ⟨g1, 0, none⟩) p.globals.length cap1))) (main := .int .i64 p.main) rfl (by omega) HBX.out hown1)))
  · go_wp2
    go_loopw [4] (fun i wr => ∃ (k : Nat) (ys : List (Fc × Value)) (Xa : Option Addr) (cx : Nat) (R : List Rw), k ≤ p.funcs.length ∧ i = .int .i64 k ∧ Hid (J1 p (w.heap.size + 2) w4.heap.size (.slice (some ⟨g1, 0, none⟩) p.globals.length cap1) k ys Xa cx R wr) ∧ Hid (B1 p A B D ca cb cd w wr) ∧ Hid (wr.heap[w.heap.size + 1]? = some (.cells #[.slice none 0 0, .slice none 0 0, .slice none 0 0, .int .i64 0] 26))) (fun i _ => p.funcs.length - (intOf i).toNat)
    case atStart => exact ⟨0, [], none, 0, _, Nat.zero_le _, rfl, Lib.hid ⟨rfl, HCG.out, by simp, List.mem_singleton_self _, by simp, List.Pairwise.nil⟩, Lib.hid (by unfold B1; with_reducible assumption), Lib.hid (by first | (with_reducible exact rb_A HR4.out) | (with_reducible exact rb_S HR4.out (by omega)))⟩
    case round =>
      obtain ⟨k, ys, Xa, cx, R, hk, rfl, hJ, hbx, hrb⟩ := hrel
      obtain ⟨y00, y01, y02, y03, yb⟩ := hbx.out
      have HYB := Lib.hid yb
      have hwr := yb.size
      clear yb
      obtain ⟨⟨z0, z1, z2, z3⟩, fz0, fz1, fz2, fz3⟩ := cells4 hJ.out.cg.box
      have hobl := (Array.getElem?_eq_some_iff.1 hJ.out.cg.box).1
      by_cases hlt : k < p.funcs.length
      · obtain ⟨gx, ox, rfl, hA⟩ := HP.out.fs.at (by omega)
        have hx := (hA k hlt).below HYB.out
        obtain ⟨x, hxe⟩ : ∃ x, p.funcs[k] = x := ⟨_, rfl⟩
        rw [hxe] at hx
        have u0 := hx.c0
        have u1 := hx.c1
        have u2 := hx.c2
        obtain ⟨AX, cX, u3, _, mX, rX⟩ := hx.row
        have HX := Lib.hid hxe
        have HR := Lib.hid rX
        have hxc : x.code.length ≤ 1048576 := HZ.out.c x (hxe ▸ List.getElem_mem _)
        have kk0 : (0 : Int) ≤ (k : Int) := by omega
        have kk1 : (k : Int) < (p.funcs.length : Int) := by omega
        clear hx hA hxe rX
        have own6 : Hid ((((wr.alloc (.cells #[.string x.name, .int .i64 x.params, .int .i64 x.regs, .slice AX x.code.length cX] 38)).alloc (.cells #[] 44))).ownsRow (w.heap.size + 2) 44 5 (.slice (some ⟨wr.heap.size + 1, 0, none⟩) 0 0) 0 []) := Lib.hid (own_e (heap2 wr (.cells #[.string x.name, .int .i64 x.params, .int .i64 x.regs, .slice AX x.code.length cX] 38) (.cells #[] 44)) (by omega))
        have news6 : Hid (0 < x.code.length → ∃ ad, AX = some ad ∧ ∀ j u, ((x.code.map inC).flatten)[j]? = some u → (((wr.alloc (.cells #[.string x.name, .int .i64 x.params, .int .i64 x.regs, .slice AX x.code.length cX] 38)).alloc (.cells #[] 44))).cell? (ad.add j) = some u) := Lib.hid (by
          intro hg
          obtain ⟨gG, oG, hB, hG⟩ := HR.out.at hg
          exact ⟨_, hB, news_row (cl := inC) (k := 5) (fun _ => rfl) (by omega) in_cells (fun i hi => (hG i hi).below (below2 wr _ _))⟩)
        have size6 : Hid ((((wr.alloc (.cells #[.string x.name, .int .i64 x.params, .int .i64 x.regs, .slice AX x.code.length cX] 38)).alloc (.cells #[] 44))).heap.size = wr.heap.size + 2) := Lib.hid (by simp)
        go_wp2_with (first
          | (at_builtin; refine wpList_append_e _ rfl _ _ _ rfl (w.heap.size + 2) 44 iI _ 5 40 Try.underlying36 hiI hzI0 hzI1 hzI2 rfl (by omega) (wr.heap.size + 1) rfl own6.out AX x.code.length cX ((x.code.map inC).flatten) rfl (flat_len (cl := inC) (k := 5) (fun _ => rfl) _) news6.out (one_flat (cl := inC) in_one) (by unfold maxLen; omega) (by omega) (by rw [size6.out]; omega) (wr.heap.size + 2) size6.out ?_; intro g5 cap5 w5 hown5 hgrow5 hat5 hlt5; have H6 := Lib.hid (after6 hown5 hgrow5 hat5 rfl); obtain ⟨⟨zc0, zc1, zc2, zc3⟩, fc0, fc1, fc2, fc3⟩ := cells4 ((hgrow5.block wr.heap.size (by rw [size6.out]; omega) (by simp)).trans (heap2a wr (.cells #[.string x.name, .int .i64 x.params, .int .i64 x.regs, .slice AX x.code.length cX] 38) (.cells #[] 44))); obtain ⟨⟨zd0, zd1, zd2, zd3⟩, -⟩ := cells4 H6.out.1; obtain ⟨⟨ze0, ze1, ze2, ze3⟩, -⟩ := cells4 ((H6.out.2.1.block _ hobl).trans hJ.out.cg.box); have hs5 := hgrow5.size; rw [size6.out] at hs5)
          | (at_builtin; refine wpList_append_lies _ rfl _ _ _ rfl (w.heap.size + 2) 38 iF _ 4 56 Try.underlying22 hiF hzF0 hzF1 hzF2 rfl (by omega) (.slice Xa k cx) k ((ys.map fnC).flatten) rfl (World.ownsRow.alloc (own_keepN hJ.out.cg.x H6.out.2.1) (.cells #[.string x.name, .int .i64 x.params, .int .i64 x.regs, (.slice (some ⟨g5, 0, none⟩) x.code.length cap5)] 38)) ⟨w5.heap.size, 0, none⟩ 1 1 (fnC (x, (.slice (some ⟨g5, 0, none⟩) x.code.length cap5))) rfl rfl (World.news_of_block (new_set w5 wr.heap.size 3 (.slice (some ⟨g5, 0, none⟩) x.code.length cap5) (.cells #[.string x.name, .int .i64 x.params, .int .i64 x.regs, (.slice (some ⟨g5, 0, none⟩) x.code.length cap5)] 38))) (fn_one x g5 cap5 x.code.length) (by omega) (by unfold maxLen; omega) (by omega) (by simp; omega) (w5.heap.size + 1) (by simp) ?_; intro g2 cap2 w7 hown2 hgrow2 hat2 hlt2; have HBX7 := Lib.hid ((hgrow2.block _ (by simp; omega) (fun e => hJ.out.cg.xob e.symm)).trans (((Below.refl _ _).alloc (Nat.le_refl _) (.cells #[.string x.name, .int .i64 x.params, .int .i64 x.regs, (.slice (some ⟨g5, 0, none⟩) x.code.length cap5)] 38)).block _ (by simp; omega) |>.trans ((H6.out.2.1.block _ hobl).trans hJ.out.cg.box))); obtain ⟨⟨zg0, zg1, zg2, zg3⟩, fg0, fg1, fg2, fg3⟩ := cells4 HBX7.out))
        have HB5 := Lib.hid (H6.out.2.1.alloc H6.out.2.1.size (.cells #[.string x.name, .int .i64 x.params, .int .i64 x.regs, (.slice (some ⟨g5, 0, none⟩) x.code.length cap5)] 38))
        go_roundw
        case rel =>
          refine ⟨k + 1, ys ++ [(x, (.slice (some ⟨g5, 0, none⟩) x.code.length cap5))], some ⟨g2, 0, none⟩, cap2, codeRow (x, (.slice (some ⟨g5, 0, none⟩) x.code.length cap5)) :: R, by omega, by go_num, Lib.hid (J1.next hJ.out hlt HX.out HB5.out (World.ownsRow.alloc H6.out.2.2.1 _) (by omega) hown2 hgrow2 (hat2.imp id fun e => by rw [e]; simp)), Lib.hid ?_, Lib.hid ((cg_old (base := w.heap.size + 2) (w := w) (by omega) (by omega) HB5.out hgrow2 (fun j hj => own_ge hJ.out.cg.x hj) (by omega)).trans hrb.out)⟩
          refine B1.setC (B1.grownK (hbx.out.keep HB5.out) hgrow2 (by have := HB5.out.size; omega) (fun j hj => ?_)) (by omega)
          have := own_ge hJ.out.cg.x hj
          omega
        case measure => simp [intOf]; omega
      · obtain rfl : k = p.funcs.length := by omega
        have HJ2 := Lib.hid (J2.start hJ.out)
        go_wp2
        clear hJ z0 z1 z2 z3 fz0 fz1 fz2 fz3 y00 y01 y02 y03 hobl hlt
        go_loopw [6] (fun i wr => ∃ (j : Nat) (zs : List (List Int × Value)) (Ya : Option Addr) (cy : Nat) (R : List Rw), j ≤ p.layouts.length ∧ i = .int .i64 j ∧ Hid (J2 p (w.heap.size + 2) w4.heap.size (.slice (some ⟨g1, 0, none⟩) p.globals.length cap1) ys Xa cx j zs Ya cy R wr) ∧ Hid (B1 p A B D ca cb cd w wr) ∧ Hid (wr.heap[w.heap.size + 1]? = some (.cells #[.slice none 0 0, .slice none 0 0, .slice none 0 0, .int .i64 0] 26))) (fun i _ => p.layouts.length - (intOf i).toNat)
        case atStart => exact ⟨0, [], none, 0, _, Nat.zero_le _, rfl, HJ2, hbx, hrb⟩
        case round =>
          clear hbx hrb HYB hwr HJ2
          obtain ⟨j, zs, Ya, cy, R, hj, rfl, hJ, hbx, hrb⟩ := hrel
          obtain ⟨y00, y01, y02, y03, yb⟩ := hbx.out
          have HYB := Lib.hid yb
          have hwr := yb.size
          clear yb
          obtain ⟨⟨z0, z1, z2, z3⟩, fz0, fz1, fz2, fz3⟩ := cells4 hJ.out.cg.box
          have hobl := (Array.getElem?_eq_some_iff.1 hJ.out.cg.box).1
          have hyl := World.block_lt_of_cell? wr _ y00
          simp only at hyl
          by_cases hlt : j < p.layouts.length
          · obtain ⟨gx, ox, rfl, hA⟩ := HP.out.ls.at (by omega)
            have hx0 := hA j hlt
            have hgx := hx0.lt
            have hx := hx0.below HYB.out
            obtain ⟨x, hxe⟩ : ∃ x, p.layouts[j] = x := ⟨_, rfl⟩
            rw [hxe, Nat.mul_one] at hx
            obtain ⟨AX, cX, u0, _, mX, rX⟩ := hx.row
            have HX := Lib.hid hxe
            have HR := Lib.hid rX
            have hxc : x.length ≤ 1048576 := HZ.out.r x (hxe ▸ List.getElem_mem _)
            have kk0 : (0 : Int) ≤ (j : Int) := by omega
            have kk1 : (j : Int) < (p.layouts.length : Int) := by omega
            have KS2 : Hid (∀ V, Below (w.heap.size + 1) wr V → V.cell? ⟨w.heap.size, 2, none⟩ = some (.slice (some ⟨gx, ox, none⟩) p.layouts.length cd) ∧ V.cell? ⟨gx, ox + j, none⟩ = some (.slice AX x.length cX) ∧ Below (w.heap.size + 1) wr V) := Lib.hid fun V hV => ⟨(hV.cell (p := ⟨w.heap.size, 2, none⟩) (by simp)).trans y02, (hV.cell (p := ⟨gx, ox + j, none⟩) (by simp; omega)).trans u0, hV⟩
            clear hx0 hx hA hxe rX
            have HB0 : Hid (Below (w.heap.size + 1) wr wr.drew) := Lib.hid (Below.drew (Below.refl _ _))
            have HBa : Hid (Below (w.heap.size + 1) wr ((wr.alloc (.cells #[] 3)).drew)) := Lib.hid (Below.mono (Below.drew (below1 wr (.cells #[] 3))) (by omega))
            have own7 : Hid (((wr.alloc (.cells #[] 3)).drew).ownsRow (w.heap.size + 2) 3 1 (.slice (some ⟨wr.heap.size, 0, none⟩) 0 0) 0 []) := Lib.hid (own_e (heap_alloc_new wr (.cells #[] 3)) (by omega))
            have news7 : Hid (0 < x.length → ∃ ad, AX = some ad ∧ ∀ j u, (x.map (Value.int .i64))[j]? = some u → ((wr.alloc (.cells #[] 3)).drew).cell? (ad.add j) = some u) := Lib.hid (by
              intro hg
              obtain ⟨gG, oG, hB, hG⟩ := HR.out.at hg
              exact ⟨_, hB, news_ints (fun i hi => (hG i hi).below (Below.drew (below1 wr _)))⟩)
            have size7 : Hid (((wr.alloc (.cells #[] 3)).drew).heap.size = wr.heap.size + 1) := Lib.hid (by simp)
            have za : (wr.alloc (.cells #[] 3)).cell? ⟨w4.heap.size, 2, none⟩ = some (.slice Ya j cy) := (cell_bel z2 (below1 wr (.cells #[] 3)))
            have ua := cell_bel u0 (below1 wr (.cells #[] 3))
            have ya := cell_bel y02 (below1 wr (.cells #[] 3))
            go_wp2_with fail
            go_region_law
              (first
                | (refine step_append_e _ (by rfl) _ _ _ (by rfl) (w.heap.size + 2) 3 i0 _ 1 8 Try.underlying33 hi0 hz00 hz01 hz02 rfl (by omega) wr.heap.size (by rfl) own7.out AX x.length cX (x.map (Value.int .i64)) (by rfl) (by simp) news7.out (ints_one _) (by unfold maxLen; omega) (by omega) (by rw [size7.out]; omega) (wr.heap.size + 1) size7.out ?_; intro g5 cap5 w5 hown5 hgrow5 hat5 hlt5; have HW5 := Lib.hid ((Below.drew (below1 wr (.cells #[] 3))).grown hgrow5 (by rw [size7.out]; omega) (fun k hk => by cases hk; omega)); have hs5 := hgrow5.size; rw [size7.out] at hs5; have HB52 := Lib.hid (HW5.out.mono (show w.heap.size + 1 ≤ wr.heap.size by omega)); have HW53 := Lib.hid (HW5.out.alloc HW5.out.size (.cells #[(.slice (some ⟨g5, 0, none⟩) x.length cap5)] 33)); have HB53 := Lib.hid (HW53.out.mono (show w.heap.size + 1 ≤ wr.heap.size by omega)); have zb := cell_bel z2 HW5.out; have zc := cell_bel z2 HW53.out)
                | (refine step_append_lies _ (by rfl) _ _ _ (by rfl) (w.heap.size + 2) 33 iL _ 1 24 Try.underlying24 hiL hzL0 hzL1 hzL2 rfl (by omega) (.slice Ya j cy) j ((zs.map lyC).flatten) (by rfl) (World.ownsRow.alloc (own_keepN hJ.out.cg.x HW5.out) (.cells #[(.slice (some ⟨g5, 0, none⟩) x.length cap5)] 33)) ⟨w5.heap.size, 0, none⟩ 1 1 (lyC (x, (.slice (some ⟨g5, 0, none⟩) x.length cap5))) (by rfl) (by rfl) (World.news_of_block (heap_alloc_new w5 (.cells #[(.slice (some ⟨g5, 0, none⟩) x.length cap5)] 33))) (ly_one g5 cap5 x.length x) (by omega) (by unfold maxLen; omega) (by omega) (by simp; omega) (w5.heap.size + 1) (by simp) ?_; intro g2 cap2 w7 hown2 hgrow2 hat2 hlt2; have HBX7 := Lib.hid ((hgrow2.block _ (by simp; omega) (fun e => hJ.out.cg.xob e.symm)).trans ((HW53.out.block _ hobl).trans hJ.out.cg.box)); obtain ⟨⟨zg0, zg1, zg2, zg3⟩, fg0, fg1, fg2, fg3⟩ := cells4 HBX7.out; have HB54 := Lib.hid (HB53.out.grown hgrow2 (by simp; omega) (fun k hk => by have := own_ge hJ.out.cg.x hk; omega)); have HB55 := Lib.hid (HB54.out.grown (grown_set w7 (w4.heap.size) 2 (.slice (some ⟨g2, 0, none⟩) (j + 1) cap2)) (by have := hgrow2.size; simp at this; omega) (fun k hk => by cases hk; omega))))
            all_goals
              go_wp2
              go_roundw
              case rel =>
                refine ⟨j + 1, zs ++ [(x, (.slice (some ⟨g5, 0, none⟩) x.length cap5))], some ⟨g2, 0, none⟩, cap2, layRow (x, (.slice (some ⟨g5, 0, none⟩) x.length cap5)) :: R, by omega, by go_num, Lib.hid (J2.next hJ.out hlt HX.out HW53.out (World.ownsRow.alloc hown5 _) (by omega) hown2 hgrow2 (hat2.imp id fun e => by rw [e]; simp)), Lib.hid ?_, Lib.hid ((cg_old (base := w.heap.size + 2) (w := w) (by omega) (by omega) HW53.out hgrow2 (fun j hj => own_ge hJ.out.cg.x hj) (by omega)).trans hrb.out)⟩
                refine B1.setC (B1.grownK (hbx.out.keep HW53.out) hgrow2 (by have := HW53.out.size; omega) (fun j hj => ?_)) (by omega)
                have := own_ge hJ.out.cg.x hj
                omega
              case measure => simp [intOf]; omega
          · obtain rfl : j = p.layouts.length := by omega
            obtain ⟨⟨zr0, zr1, zr2, zr3⟩, fr0, fr1, fr2, fr3⟩ := cells4 hrb.out
            go_wp2
            try simp only [Exit.inBlock, Exit.then]
            refine bodyPost_ret (results_cell_row rfl _ _ (w.heap.size + 1) 26 _ (0, 0) _ rfl (blk4 hrb.out) Try.underlying26 rfl infoPg) rfl ?_
            exact ⟨Xa, _, Ya, cx, cap1, cy, rfl, J2.pg HP.out (J2.low4 hJ.out (by omega) (by omega)), bel_set4 HYB.out HYB.out.size (by omega), fun i k hi hk => J2.mut HP.out (J2.low4 hJ.out (by omega) (by omega)) hi hk⟩

  · go_wp2
    go_loopw [4] (fun i wr => ∃ (k : Nat) (ys : List (Fc × Value)) (Xa : Option Addr) (cx : Nat) (R : List Rw), k ≤ p.funcs.length ∧ i = .int .i64 k ∧ Hid (J1 p (w.heap.size + 2) (w.heap.size + 1 + 1 + 1) (.slice (some ⟨g1, 0, none⟩) p.globals.length cap1) k ys Xa cx R wr) ∧ Hid (B1 p A B D ca cb cd w wr) ∧ Hid (wr.heap[w.heap.size + 1]? = some (.cells #[.slice none 0 0, .slice none 0 0, .slice none 0 0, .int .i64 0] 26))) (fun i _ => p.funcs.length - (intOf i).toNat)
    case atStart => exact ⟨0, [], none, 0, _, Nat.zero_le _, rfl, Lib.hid ⟨rfl, HCG.out, by simp, List.mem_singleton_self _, by simp, List.Pairwise.nil⟩, Lib.hid (by unfold B1; with_reducible assumption), Lib.hid (by first | (with_reducible exact rb_A HR4.out) | (with_reducible exact rb_S HR4.out (by omega)))⟩
    case round =>
      obtain ⟨k, ys, Xa, cx, R, hk, rfl, hJ, hbx, hrb⟩ := hrel
      obtain ⟨y00, y01, y02, y03, yb⟩ := hbx.out
      have HYB := Lib.hid yb
      have hwr := yb.size
      clear yb
      obtain ⟨⟨z0, z1, z2, z3⟩, fz0, fz1, fz2, fz3⟩ := cells4 hJ.out.cg.box
      have hobl := (Array.getElem?_eq_some_iff.1 hJ.out.cg.box).1
      by_cases hlt : k < p.funcs.length
      · obtain ⟨gx, ox, rfl, hA⟩ := HP.out.fs.at (by omega)
        have hx := (hA k hlt).below HYB.out
        obtain ⟨x, hxe⟩ : ∃ x, p.funcs[k] = x := ⟨_, rfl⟩
        rw [hxe] at hx
        have u0 := hx.c0
        have u1 := hx.c1
        have u2 := hx.c2
        obtain ⟨AX, cX, u3, _, mX, rX⟩ := hx.row
        have HX := Lib.hid hxe
        have HR := Lib.hid rX
        have hxc : x.code.length ≤ 1048576 := HZ.out.c x (hxe ▸ List.getElem_mem _)
        have kk0 : (0 : Int) ≤ (k : Int) := by omega
        have kk1 : (k : Int) < (p.funcs.length : Int) := by omega
        clear hx hA hxe rX
        have own6 : Hid ((((wr.alloc (.cells #[.string x.name, .int .i64 x.params, .int .i64 x.regs, .slice AX x.code.length cX] 38)).alloc (.cells #[] 44))).ownsRow (w.heap.size + 2) 44 5 (.slice (some ⟨wr.heap.size + 1, 0, none⟩) 0 0) 0 []) := Lib.hid (own_e (heap2 wr (.cells #[.string x.name, .int .i64 x.params, .int .i64 x.regs, .slice AX x.code.length cX] 38) (.cells #[] 44)) (by omega))
        have news6 : Hid (0 < x.code.length → ∃ ad, AX = some ad ∧ ∀ j u, ((x.code.map inC).flatten)[j]? = some u → (((wr.alloc (.cells #[.string x.name, .int .i64 x.params, .int .i64 x.regs, .slice AX x.code.length cX] 38)).alloc (.cells #[] 44))).cell? (ad.add j) = some u) := Lib.hid (by
          intro hg
          obtain ⟨gG, oG, hB, hG⟩ := HR.out.at hg
          exact ⟨_, hB, news_row (cl := inC) (k := 5) (fun _ => rfl) (by omega) in_cells (fun i hi => (hG i hi).below (below2 wr _ _))⟩)
        have size6 : Hid ((((wr.alloc (.cells #[.string x.name, .int .i64 x.params, .int .i64 x.regs, .slice AX x.code.length cX] 38)).alloc (.cells #[] 44))).heap.size = wr.heap.size + 2) := Lib.hid (by simp)
        go_wp2_with (first
          | (at_builtin; refine wpList_append_e _ rfl _ _ _ rfl (w.heap.size + 2) 44 iI _ 5 40 Try.underlying36 hiI hzI0 hzI1 hzI2 rfl (by omega) (wr.heap.size + 1) rfl own6.out AX x.code.length cX ((x.code.map inC).flatten) rfl (flat_len (cl := inC) (k := 5) (fun _ => rfl) _) news6.out (one_flat (cl := inC) in_one) (by unfold maxLen; omega) (by omega) (by rw [size6.out]; omega) (wr.heap.size + 2) size6.out ?_; intro g5 cap5 w5 hown5 hgrow5 hat5 hlt5; have H6 := Lib.hid (after6 hown5 hgrow5 hat5 rfl); obtain ⟨⟨zc0, zc1, zc2, zc3⟩, fc0, fc1, fc2, fc3⟩ := cells4 ((hgrow5.block wr.heap.size (by rw [size6.out]; omega) (by simp)).trans (heap2a wr (.cells #[.string x.name, .int .i64 x.params, .int .i64 x.regs, .slice AX x.code.length cX] 38) (.cells #[] 44))); obtain ⟨⟨zd0, zd1, zd2, zd3⟩, -⟩ := cells4 H6.out.1; obtain ⟨⟨ze0, ze1, ze2, ze3⟩, -⟩ := cells4 ((H6.out.2.1.block _ hobl).trans hJ.out.cg.box); have hs5 := hgrow5.size; rw [size6.out] at hs5)
          | (at_builtin; refine wpList_append_lies _ rfl _ _ _ rfl (w.heap.size + 2) 38 iF _ 4 56 Try.underlying22 hiF hzF0 hzF1 hzF2 rfl (by omega) (.slice Xa k cx) k ((ys.map fnC).flatten) rfl (World.ownsRow.alloc (own_keepN hJ.out.cg.x H6.out.2.1) (.cells #[.string x.name, .int .i64 x.params, .int .i64 x.regs, (.slice (some ⟨g5, 0, none⟩) x.code.length cap5)] 38)) ⟨w5.heap.size, 0, none⟩ 1 1 (fnC (x, (.slice (some ⟨g5, 0, none⟩) x.code.length cap5))) rfl rfl (World.news_of_block (new_set w5 wr.heap.size 3 (.slice (some ⟨g5, 0, none⟩) x.code.length cap5) (.cells #[.string x.name, .int .i64 x.params, .int .i64 x.regs, (.slice (some ⟨g5, 0, none⟩) x.code.length cap5)] 38))) (fn_one x g5 cap5 x.code.length) (by omega) (by unfold maxLen; omega) (by omega) (by simp; omega) (w5.heap.size + 1) (by simp) ?_; intro g2 cap2 w7 hown2 hgrow2 hat2 hlt2; have HBX7 := Lib.hid ((hgrow2.block _ (by simp; omega) (fun e => hJ.out.cg.xob e.symm)).trans (((Below.refl _ _).alloc (Nat.le_refl _) (.cells #[.string x.name, .int .i64 x.params, .int .i64 x.regs, (.slice (some ⟨g5, 0, none⟩) x.code.length cap5)] 38)).block _ (by simp; omega) |>.trans ((H6.out.2.1.block _ hobl).trans hJ.out.cg.box))); obtain ⟨⟨zg0, zg1, zg2, zg3⟩, fg0, fg1, fg2, fg3⟩ := cells4 HBX7.out))
        have HB5 := Lib.hid (H6.out.2.1.alloc H6.out.2.1.size (.cells #[.string x.name, .int .i64 x.params, .int .i64 x.regs, (.slice (some ⟨g5, 0, none⟩) x.code.length cap5)] 38))
        go_roundw
        case rel =>
          refine ⟨k + 1, ys ++ [(x, (.slice (some ⟨g5, 0, none⟩) x.code.length cap5))], some ⟨g2, 0, none⟩, cap2, codeRow (x, (.slice (some ⟨g5, 0, none⟩) x.code.length cap5)) :: R, by omega, by go_num, Lib.hid (J1.next hJ.out hlt HX.out HB5.out (World.ownsRow.alloc H6.out.2.2.1 _) (by omega) hown2 hgrow2 (hat2.imp id fun e => by rw [e]; simp)), Lib.hid ?_, Lib.hid ((cg_old (base := w.heap.size + 2) (w := w) (by omega) (by omega) HB5.out hgrow2 (fun j hj => own_ge hJ.out.cg.x hj) (by omega)).trans hrb.out)⟩
          refine B1.setC (B1.grownK (hbx.out.keep HB5.out) hgrow2 (by have := HB5.out.size; omega) (fun j hj => ?_)) (by omega)
          have := own_ge hJ.out.cg.x hj
          omega
        case measure => simp [intOf]; omega
      · obtain rfl : k = p.funcs.length := by omega
        have HJ2 := Lib.hid (J2.start hJ.out)
        go_wp2
        clear hJ z0 z1 z2 z3 fz0 fz1 fz2 fz3 y00 y01 y02 y03 hobl hlt
        go_loopw [6] (fun i wr => ∃ (j : Nat) (zs : List (List Int × Value)) (Ya : Option Addr) (cy : Nat) (R : List Rw), j ≤ p.layouts.length ∧ i = .int .i64 j ∧ Hid (J2 p (w.heap.size + 2) (w.heap.size + 1 + 1 + 1) (.slice (some ⟨g1, 0, none⟩) p.globals.length cap1) ys Xa cx j zs Ya cy R wr) ∧ Hid (B1 p A B D ca cb cd w wr) ∧ Hid (wr.heap[w.heap.size + 1]? = some (.cells #[.slice none 0 0, .slice none 0 0, .slice none 0 0, .int .i64 0] 26))) (fun i _ => p.layouts.length - (intOf i).toNat)
        case atStart => exact ⟨0, [], none, 0, _, Nat.zero_le _, rfl, HJ2, hbx, hrb⟩
        case round =>
          clear hbx hrb HYB hwr HJ2
          obtain ⟨j, zs, Ya, cy, R, hj, rfl, hJ, hbx, hrb⟩ := hrel
          obtain ⟨y00, y01, y02, y03, yb⟩ := hbx.out
          have HYB := Lib.hid yb
          have hwr := yb.size
          clear yb
          obtain ⟨⟨z0, z1, z2, z3⟩, fz0, fz1, fz2, fz3⟩ := cells4 hJ.out.cg.box
          have hobl := (Array.getElem?_eq_some_iff.1 hJ.out.cg.box).1
          have hyl := World.block_lt_of_cell? wr _ y00
          simp only at hyl
          by_cases hlt : j < p.layouts.length
          · obtain ⟨gx, ox, rfl, hA⟩ := HP.out.ls.at (by omega)
            have hx0 := hA j hlt
            have hgx := hx0.lt
            have hx := hx0.below HYB.out
            obtain ⟨x, hxe⟩ : ∃ x, p.layouts[j] = x := ⟨_, rfl⟩
            rw [hxe, Nat.mul_one] at hx
            obtain ⟨AX, cX, u0, _, mX, rX⟩ := hx.row
            have HX := Lib.hid hxe
            have HR := Lib.hid rX
            have hxc : x.length ≤ 1048576 := HZ.out.r x (hxe ▸ List.getElem_mem _)
            have kk0 : (0 : Int) ≤ (j : Int) := by omega
            have kk1 : (j : Int) < (p.layouts.length : Int) := by omega
            have KS2 : Hid (∀ V, Below (w.heap.size + 1) wr V → V.cell? ⟨w.heap.size, 2, none⟩ = some (.slice (some ⟨gx, ox, none⟩) p.layouts.length cd) ∧ V.cell? ⟨gx, ox + j, none⟩ = some (.slice AX x.length cX) ∧ Below (w.heap.size + 1) wr V) := Lib.hid fun V hV => ⟨(hV.cell (p := ⟨w.heap.size, 2, none⟩) (by simp)).trans y02, (hV.cell (p := ⟨gx, ox + j, none⟩) (by simp; omega)).trans u0, hV⟩
            clear hx0 hx hA hxe rX
            have HB0 : Hid (Below (w.heap.size + 1) wr wr.drew) := Lib.hid (Below.drew (Below.refl _ _))
            have HBa : Hid (Below (w.heap.size + 1) wr ((wr.alloc (.cells #[] 3)).drew)) := Lib.hid (Below.mono (Below.drew (below1 wr (.cells #[] 3))) (by omega))
            have own7 : Hid (((wr.alloc (.cells #[] 3)).drew).ownsRow (w.heap.size + 2) 3 1 (.slice (some ⟨wr.heap.size, 0, none⟩) 0 0) 0 []) := Lib.hid (own_e (heap_alloc_new wr (.cells #[] 3)) (by omega))
            have news7 : Hid (0 < x.length → ∃ ad, AX = some ad ∧ ∀ j u, (x.map (Value.int .i64))[j]? = some u → ((wr.alloc (.cells #[] 3)).drew).cell? (ad.add j) = some u) := Lib.hid (by
              intro hg
              obtain ⟨gG, oG, hB, hG⟩ := HR.out.at hg
              exact ⟨_, hB, news_ints (fun i hi => (hG i hi).below (Below.drew (below1 wr _)))⟩)
            have size7 : Hid (((wr.alloc (.cells #[] 3)).drew).heap.size = wr.heap.size + 1) := Lib.hid (by simp)
            have za : (wr.alloc (.cells #[] 3)).cell? ⟨(w.heap.size + 1 + 1 + 1), 2, none⟩ = some (.slice Ya j cy) := (cell_bel z2 (below1 wr (.cells #[] 3)))
            have ua := cell_bel u0 (below1 wr (.cells #[] 3))
            have ya := cell_bel y02 (below1 wr (.cells #[] 3))
            go_wp2_with fail
            go_region_law
              (first
                | (refine step_append_e _ (by rfl) _ _ _ (by rfl) (w.heap.size + 2) 3 i0 _ 1 8 Try.underlying33 hi0 hz00 hz01 hz02 rfl (by omega) wr.heap.size (by rfl) own7.out AX x.length cX (x.map (Value.int .i64)) (by rfl) (by simp) news7.out (ints_one _) (by unfold maxLen; omega) (by omega) (by rw [size7.out]; omega) (wr.heap.size + 1) size7.out ?_; intro g5 cap5 w5 hown5 hgrow5 hat5 hlt5; have HW5 := Lib.hid ((Below.drew (below1 wr (.cells #[] 3))).grown hgrow5 (by rw [size7.out]; omega) (fun k hk => by cases hk; omega)); have hs5 := hgrow5.size; rw [size7.out] at hs5; have HB52 := Lib.hid (HW5.out.mono (show w.heap.size + 1 ≤ wr.heap.size by omega)); have HW53 := Lib.hid (HW5.out.alloc HW5.out.size (.cells #[(.slice (some ⟨g5, 0, none⟩) x.length cap5)] 33)); have HB53 := Lib.hid (HW53.out.mono (show w.heap.size + 1 ≤ wr.heap.size by omega)); have zb := cell_bel z2 HW5.out; have zc := cell_bel z2 HW53.out)
                | (refine step_append_lies _ (by rfl) _ _ _ (by rfl) (w.heap.size + 2) 33 iL _ 1 24 Try.underlying24 hiL hzL0 hzL1 hzL2 rfl (by omega) (.slice Ya j cy) j ((zs.map lyC).flatten) (by rfl) (World.ownsRow.alloc (own_keepN hJ.out.cg.x HW5.out) (.cells #[(.slice (some ⟨g5, 0, none⟩) x.length cap5)] 33)) ⟨w5.heap.size, 0, none⟩ 1 1 (lyC (x, (.slice (some ⟨g5, 0, none⟩) x.length cap5))) (by rfl) (by rfl) (World.news_of_block (heap_alloc_new w5 (.cells #[(.slice (some ⟨g5, 0, none⟩) x.length cap5)] 33))) (ly_one g5 cap5 x.length x) (by omega) (by unfold maxLen; omega) (by omega) (by simp; omega) (w5.heap.size + 1) (by simp) ?_; intro g2 cap2 w7 hown2 hgrow2 hat2 hlt2; have HBX7 := Lib.hid ((hgrow2.block _ (by simp; omega) (fun e => hJ.out.cg.xob e.symm)).trans ((HW53.out.block _ hobl).trans hJ.out.cg.box)); obtain ⟨⟨zg0, zg1, zg2, zg3⟩, fg0, fg1, fg2, fg3⟩ := cells4 HBX7.out; have HB54 := Lib.hid (HB53.out.grown hgrow2 (by simp; omega) (fun k hk => by have := own_ge hJ.out.cg.x hk; omega)); have HB55 := Lib.hid (HB54.out.grown (grown_set w7 ((w.heap.size + 1 + 1 + 1)) 2 (.slice (some ⟨g2, 0, none⟩) (j + 1) cap2)) (by have := hgrow2.size; simp at this; omega) (fun k hk => by cases hk; omega))))
            all_goals
              go_wp2
              go_roundw
              case rel =>
                refine ⟨j + 1, zs ++ [(x, (.slice (some ⟨g5, 0, none⟩) x.length cap5))], some ⟨g2, 0, none⟩, cap2, layRow (x, (.slice (some ⟨g5, 0, none⟩) x.length cap5)) :: R, by omega, by go_num, Lib.hid (J2.next hJ.out hlt HX.out HW53.out (World.ownsRow.alloc hown5 _) (by omega) hown2 hgrow2 (hat2.imp id fun e => by rw [e]; simp)), Lib.hid ?_, Lib.hid ((cg_old (base := w.heap.size + 2) (w := w) (by omega) (by omega) HW53.out hgrow2 (fun j hj => own_ge hJ.out.cg.x hj) (by omega)).trans hrb.out)⟩
                refine B1.setC (B1.grownK (hbx.out.keep HW53.out) hgrow2 (by have := HW53.out.size; omega) (fun j hj => ?_)) (by omega)
                have := own_ge hJ.out.cg.x hj
                omega
              case measure => simp [intOf]; omega
          · obtain rfl : j = p.layouts.length := by omega
            obtain ⟨⟨zr0, zr1, zr2, zr3⟩, fr0, fr1, fr2, fr3⟩ := cells4 hrb.out
            go_wp2
            try simp only [Exit.inBlock, Exit.then]
            refine bodyPost_ret (results_cell_row rfl _ _ (w.heap.size + 1) 26 _ (0, 0) _ rfl (blk4 hrb.out) Try.underlying26 rfl infoPg) rfl ?_
            exact ⟨Xa, _, Ya, cx, cap1, cy, rfl, J2.pg HP.out (J2.low4 hJ.out (by omega) (by omega)), bel_set4 HYB.out HYB.out.size (by omega), fun i k hi hk => J2.mut HP.out (J2.low4 hJ.out (by omega) (by omega)) hi hk⟩

  · go_wp2
    go_loopw [4] (fun i wr => ∃ (k : Nat) (ys : List (Fc × Value)) (Xa : Option Addr) (cx : Nat) (R : List Rw), k ≤ p.funcs.length ∧ i = .int .i64 k ∧ Hid (J1 p (w.heap.size + 2) (w.heap.size + 1 + 1) (.slice (some ⟨g1, 0, none⟩) p.globals.length cap1) k ys Xa cx R wr) ∧ Hid (B1 p A B D ca cb cd w wr) ∧ Hid (wr.heap[w.heap.size + 1]? = some (.cells #[.slice none 0 0, .slice none 0 0, .slice none 0 0, .int .i64 0] 26))) (fun i _ => p.funcs.length - (intOf i).toNat)
    case atStart => exact ⟨0, [], none, 0, _, Nat.zero_le _, rfl, Lib.hid ⟨rfl, HCG.out, by simp, List.mem_singleton_self _, by simp, List.Pairwise.nil⟩, Lib.hid (by unfold B1; with_reducible assumption), Lib.hid (by first | (with_reducible exact rb_A HR4.out) | (with_reducible exact rb_S HR4.out (by omega)))⟩
    case round =>
      obtain ⟨k, ys, Xa, cx, R, hk, rfl, hJ, hbx, hrb⟩ := hrel
      obtain ⟨y00, y01, y02, y03, yb⟩ := hbx.out
      have HYB := Lib.hid yb
      have hwr := yb.size
      clear yb
      obtain ⟨⟨z0, z1, z2, z3⟩, fz0, fz1, fz2, fz3⟩ := cells4 hJ.out.cg.box
      have hobl := (Array.getElem?_eq_some_iff.1 hJ.out.cg.box).1
      by_cases hlt : k < p.funcs.length
      · obtain ⟨gx, ox, rfl, hA⟩ := HP.out.fs.at (by omega)
        have hx := (hA k hlt).below HYB.out
        obtain ⟨x, hxe⟩ : ∃ x, p.funcs[k] = x := ⟨_, rfl⟩
        rw [hxe] at hx
        have u0 := hx.c0
        have u1 := hx.c1
        have u2 := hx.c2
        obtain ⟨AX, cX, u3, _, mX, rX⟩ := hx.row
        have HX := Lib.hid hxe
        have HR := Lib.hid rX
        have hxc : x.code.length ≤ 1048576 := HZ.out.c x (hxe ▸ List.getElem_mem _)
        have kk0 : (0 : Int) ≤ (k : Int) := by omega
        have kk1 : (k : Int) < (p.funcs.length : Int) := by omega
        clear hx hA hxe rX
        have own6 : Hid ((((wr.alloc (.cells #[.string x.name, .int .i64 x.params, .int .i64 x.regs, .slice AX x.code.length cX] 38)).alloc (.cells #[] 44))).ownsRow (w.heap.size + 2) 44 5 (.slice (some ⟨wr.heap.size + 1, 0, none⟩) 0 0) 0 []) := Lib.hid (own_e (heap2 wr (.cells #[.string x.name, .int .i64 x.params, .int .i64 x.regs, .slice AX x.code.length cX] 38) (.cells #[] 44)) (by omega))
        have news6 : Hid (0 < x.code.length → ∃ ad, AX = some ad ∧ ∀ j u, ((x.code.map inC).flatten)[j]? = some u → (((wr.alloc (.cells #[.string x.name, .int .i64 x.params, .int .i64 x.regs, .slice AX x.code.length cX] 38)).alloc (.cells #[] 44))).cell? (ad.add j) = some u) := Lib.hid (by
          intro hg
          obtain ⟨gG, oG, hB, hG⟩ := HR.out.at hg
          exact ⟨_, hB, news_row (cl := inC) (k := 5) (fun _ => rfl) (by omega) in_cells (fun i hi => (hG i hi).below (below2 wr _ _))⟩)
        have size6 : Hid ((((wr.alloc (.cells #[.string x.name, .int .i64 x.params, .int .i64 x.regs, .slice AX x.code.length cX] 38)).alloc (.cells #[] 44))).heap.size = wr.heap.size + 2) := Lib.hid (by simp)
        go_wp2_with (first
          | (at_builtin; refine wpList_append_e _ rfl _ _ _ rfl (w.heap.size + 2) 44 iI _ 5 40 Try.underlying36 hiI hzI0 hzI1 hzI2 rfl (by omega) (wr.heap.size + 1) rfl own6.out AX x.code.length cX ((x.code.map inC).flatten) rfl (flat_len (cl := inC) (k := 5) (fun _ => rfl) _) news6.out (one_flat (cl := inC) in_one) (by unfold maxLen; omega) (by omega) (by rw [size6.out]; omega) (wr.heap.size + 2) size6.out ?_; intro g5 cap5 w5 hown5 hgrow5 hat5 hlt5; have H6 := Lib.hid (after6 hown5 hgrow5 hat5 rfl); obtain ⟨⟨zc0, zc1, zc2, zc3⟩, fc0, fc1, fc2, fc3⟩ := cells4 ((hgrow5.block wr.heap.size (by rw [size6.out]; omega) (by simp)).trans (heap2a wr (.cells #[.string x.name, .int .i64 x.params, .int .i64 x.regs, .slice AX x.code.length cX] 38) (.cells #[] 44))); obtain ⟨⟨zd0, zd1, zd2, zd3⟩, -⟩ := cells4 H6.out.1; obtain ⟨⟨ze0, ze1, ze2, ze3⟩, -⟩ := cells4 ((H6.out.2.1.block _ hobl).trans hJ.out.cg.box); have hs5 := hgrow5.size; rw [size6.out] at hs5)
          | (at_builtin; refine wpList_append_lies _ rfl _ _ _ rfl (w.heap.size + 2) 38 iF _ 4 56 Try.underlying22 hiF hzF0 hzF1 hzF2 rfl (by omega) (.slice Xa k cx) k ((ys.map fnC).flatten) rfl (World.ownsRow.alloc (own_keepN hJ.out.cg.x H6.out.2.1) (.cells #[.string x.name, .int .i64 x.params, .int .i64 x.regs, (.slice (some ⟨g5, 0, none⟩) x.code.length cap5)] 38)) ⟨w5.heap.size, 0, none⟩ 1 1 (fnC (x, (.slice (some ⟨g5, 0, none⟩) x.code.length cap5))) rfl rfl (World.news_of_block (new_set w5 wr.heap.size 3 (.slice (some ⟨g5, 0, none⟩) x.code.length cap5) (.cells #[.string x.name, .int .i64 x.params, .int .i64 x.regs, (.slice (some ⟨g5, 0, none⟩) x.code.length cap5)] 38))) (fn_one x g5 cap5 x.code.length) (by omega) (by unfold maxLen; omega) (by omega) (by simp; omega) (w5.heap.size + 1) (by simp) ?_; intro g2 cap2 w7 hown2 hgrow2 hat2 hlt2; have HBX7 := Lib.hid ((hgrow2.block _ (by simp; omega) (fun e => hJ.out.cg.xob e.symm)).trans (((Below.refl _ _).alloc (Nat.le_refl _) (.cells #[.string x.name, .int .i64 x.params, .int .i64 x.regs, (.slice (some ⟨g5, 0, none⟩) x.code.length cap5)] 38)).block _ (by simp; omega) |>.trans ((H6.out.2.1.block _ hobl).trans hJ.out.cg.box))); obtain ⟨⟨zg0, zg1, zg2, zg3⟩, fg0, fg1, fg2, fg3⟩ := cells4 HBX7.out))
        have HB5 := Lib.hid (H6.out.2.1.alloc H6.out.2.1.size (.cells #[.string x.name, .int .i64 x.params, .int .i64 x.regs, (.slice (some ⟨g5, 0, none⟩) x.code.length cap5)] 38))
        go_roundw
        case rel =>
          refine ⟨k + 1, ys ++ [(x, (.slice (some ⟨g5, 0, none⟩) x.code.length cap5))], some ⟨g2, 0, none⟩, cap2, codeRow (x, (.slice (some ⟨g5, 0, none⟩) x.code.length cap5)) :: R, by omega, by go_num, Lib.hid (J1.next hJ.out hlt HX.out HB5.out (World.ownsRow.alloc H6.out.2.2.1 _) (by omega) hown2 hgrow2 (hat2.imp id fun e => by rw [e]; simp)), Lib.hid ?_, Lib.hid ((cg_old (base := w.heap.size + 2) (w := w) (by omega) (by omega) HB5.out hgrow2 (fun j hj => own_ge hJ.out.cg.x hj) (by omega)).trans hrb.out)⟩
          refine B1.setC (B1.grownK (hbx.out.keep HB5.out) hgrow2 (by have := HB5.out.size; omega) (fun j hj => ?_)) (by omega)
          have := own_ge hJ.out.cg.x hj
          omega
        case measure => simp [intOf]; omega
      · obtain rfl : k = p.funcs.length := by omega
        have HJ2 := Lib.hid (J2.start hJ.out)
        go_wp2
        clear hJ z0 z1 z2 z3 fz0 fz1 fz2 fz3 y00 y01 y02 y03 hobl hlt
        go_loopw [6] (fun i wr => ∃ (j : Nat) (zs : List (List Int × Value)) (Ya : Option Addr) (cy : Nat) (R : List Rw), j ≤ p.layouts.length ∧ i = .int .i64 j ∧ Hid (J2 p (w.heap.size + 2) (w.heap.size + 1 + 1) (.slice (some ⟨g1, 0, none⟩) p.globals.length cap1) ys Xa cx j zs Ya cy R wr) ∧ Hid (B1 p A B D ca cb cd w wr) ∧ Hid (wr.heap[w.heap.size + 1]? = some (.cells #[.slice none 0 0, .slice none 0 0, .slice none 0 0, .int .i64 0] 26))) (fun i _ => p.layouts.length - (intOf i).toNat)
        case atStart => exact ⟨0, [], none, 0, _, Nat.zero_le _, rfl, HJ2, hbx, hrb⟩
        case round =>
          clear hbx hrb HYB hwr HJ2
          obtain ⟨j, zs, Ya, cy, R, hj, rfl, hJ, hbx, hrb⟩ := hrel
          obtain ⟨y00, y01, y02, y03, yb⟩ := hbx.out
          have HYB := Lib.hid yb
          have hwr := yb.size
          clear yb
          obtain ⟨⟨z0, z1, z2, z3⟩, fz0, fz1, fz2, fz3⟩ := cells4 hJ.out.cg.box
          have hobl := (Array.getElem?_eq_some_iff.1 hJ.out.cg.box).1
          have hyl := World.block_lt_of_cell? wr _ y00
          simp only at hyl
          by_cases hlt : j < p.layouts.length
          · obtain ⟨gx, ox, rfl, hA⟩ := HP.out.ls.at (by omega)
            have hx0 := hA j hlt
            have hgx := hx0.lt
            have hx := hx0.below HYB.out
            obtain ⟨x, hxe⟩ : ∃ x, p.layouts[j] = x := ⟨_, rfl⟩
            rw [hxe, Nat.mul_one] at hx
            obtain ⟨AX, cX, u0, _, mX, rX⟩ := hx.row
            have HX := Lib.hid hxe
            have HR := Lib.hid rX
            have hxc : x.length ≤ 1048576 := HZ.out.r x (hxe ▸ List.getElem_mem _)
            have kk0 : (0 : Int) ≤ (j : Int) := by omega
            have kk1 : (j : Int) < (p.layouts.length : Int) := by omega
            have KS2 : Hid (∀ V, Below (w.heap.size + 1) wr V → V.cell? ⟨w.heap.size, 2, none⟩ = some (.slice (some ⟨gx, ox, none⟩) p.layouts.length cd) ∧ V.cell? ⟨gx, ox + j, none⟩ = some (.slice AX x.length cX) ∧ Below (w.heap.size + 1) wr V) := Lib.hid fun V hV => ⟨(hV.cell (p := ⟨w.heap.size, 2, none⟩) (by simp)).trans y02, (hV.cell (p := ⟨gx, ox + j, none⟩) (by simp; omega)).trans u0, hV⟩
            clear hx0 hx hA hxe rX
            have HB0 : Hid (Below (w.heap.size + 1) wr wr.drew) := Lib.hid (Below.drew (Below.refl _ _))
            have HBa : Hid (Below (w.heap.size + 1) wr ((wr.alloc (.cells #[] 3)).drew)) := Lib.hid (Below.mono (Below.drew (below1 wr (.cells #[] 3))) (by omega))
            have own7 : Hid (((wr.alloc (.cells #[] 3)).drew).ownsRow (w.heap.size + 2) 3 1 (.slice (some ⟨wr.heap.size, 0, none⟩) 0 0) 0 []) := Lib.hid (own_e (heap_alloc_new wr (.cells #[] 3)) (by omega))
            have news7 : Hid (0 < x.length → ∃ ad, AX = some ad ∧ ∀ j u, (x.map (Value.int .i64))[j]? = some u → ((wr.alloc (.cells #[] 3)).drew).cell? (ad.add j) = some u) := Lib.hid (by
              intro hg
              obtain ⟨gG, oG, hB, hG⟩ := HR.out.at hg
              exact ⟨_, hB, news_ints (fun i hi => (hG i hi).below (Below.drew (below1 wr _)))⟩)
            have size7 : Hid (((wr.alloc (.cells #[] 3)).drew).heap.size = wr.heap.size + 1) := Lib.hid (by simp)
            have za : (wr.alloc (.cells #[] 3)).cell? ⟨(w.heap.size + 1 + 1), 2, none⟩ = some (.slice Ya j cy) := (cell_bel z2 (below1 wr (.cells #[] 3)))
            have ua := cell_bel u0 (below1 wr (.cells #[] 3))
            have ya := cell_bel y02 (below1 wr (.cells #[] 3))
            go_wp2_with fail
            go_region_law
              (first
                | (refine step_append_e _ (by rfl) _ _ _ (by rfl) (w.heap.size + 2) 3 i0 _ 1 8 Try.underlying33 hi0 hz00 hz01 hz02 rfl (by omega) wr.heap.size (by rfl) own7.out AX x.length cX (x.map (Value.int .i64)) (by rfl) (by simp) news7.out (ints_one _) (by unfold maxLen; omega) (by omega) (by rw [size7.out]; omega) (wr.heap.size + 1) size7.out ?_; intro g5 cap5 w5 hown5 hgrow5 hat5 hlt5; have HW5 := Lib.hid ((Below.drew (below1 wr (.cells #[] 3))).grown hgrow5 (by rw [size7.out]; omega) (fun k hk => by cases hk; omega)); have hs5 := hgrow5.size; rw [size7.out] at hs5; have HB52 := Lib.hid (HW5.out.mono (show w.heap.size + 1 ≤ wr.heap.size by omega)); have HW53 := Lib.hid (HW5.out.alloc HW5.out.size (.cells #[(.slice (some ⟨g5, 0, none⟩) x.length cap5)] 33)); have HB53 := Lib.hid (HW53.out.mono (show w.heap.size + 1 ≤ wr.heap.size by omega)); have zb := cell_bel z2 HW5.out; have zc := cell_bel z2 HW53.out)
                | (refine step_append_lies _ (by rfl) _ _ _ (by rfl) (w.heap.size + 2) 33 iL _ 1 24 Try.underlying24 hiL hzL0 hzL1 hzL2 rfl (by omega) (.slice Ya j cy) j ((zs.map lyC).flatten) (by rfl) (World.ownsRow.alloc (own_keepN hJ.out.cg.x HW5.out) (.cells #[(.slice (some ⟨g5, 0, none⟩) x.length cap5)] 33)) ⟨w5.heap.size, 0, none⟩ 1 1 (lyC (x, (.slice (some ⟨g5, 0, none⟩) x.length cap5))) (by rfl) (by rfl) (World.news_of_block (heap_alloc_new w5 (.cells #[(.slice (some ⟨g5, 0, none⟩) x.length cap5)] 33))) (ly_one g5 cap5 x.length x) (by omega) (by unfold maxLen; omega) (by omega) (by simp; omega) (w5.heap.size + 1) (by simp) ?_; intro g2 cap2 w7 hown2 hgrow2 hat2 hlt2; have HBX7 := Lib.hid ((hgrow2.block _ (by simp; omega) (fun e => hJ.out.cg.xob e.symm)).trans ((HW53.out.block _ hobl).trans hJ.out.cg.box)); obtain ⟨⟨zg0, zg1, zg2, zg3⟩, fg0, fg1, fg2, fg3⟩ := cells4 HBX7.out; have HB54 := Lib.hid (HB53.out.grown hgrow2 (by simp; omega) (fun k hk => by have := own_ge hJ.out.cg.x hk; omega)); have HB55 := Lib.hid (HB54.out.grown (grown_set w7 ((w.heap.size + 1 + 1)) 2 (.slice (some ⟨g2, 0, none⟩) (j + 1) cap2)) (by have := hgrow2.size; simp at this; omega) (fun k hk => by cases hk; omega))))
            all_goals
              go_wp2
              go_roundw
              case rel =>
                refine ⟨j + 1, zs ++ [(x, (.slice (some ⟨g5, 0, none⟩) x.length cap5))], some ⟨g2, 0, none⟩, cap2, layRow (x, (.slice (some ⟨g5, 0, none⟩) x.length cap5)) :: R, by omega, by go_num, Lib.hid (J2.next hJ.out hlt HX.out HW53.out (World.ownsRow.alloc hown5 _) (by omega) hown2 hgrow2 (hat2.imp id fun e => by rw [e]; simp)), Lib.hid ?_, Lib.hid ((cg_old (base := w.heap.size + 2) (w := w) (by omega) (by omega) HW53.out hgrow2 (fun j hj => own_ge hJ.out.cg.x hj) (by omega)).trans hrb.out)⟩
                refine B1.setC (B1.grownK (hbx.out.keep HW53.out) hgrow2 (by have := HW53.out.size; omega) (fun j hj => ?_)) (by omega)
                have := own_ge hJ.out.cg.x hj
                omega
              case measure => simp [intOf]; omega
          · obtain rfl : j = p.layouts.length := by omega
            obtain ⟨⟨zr0, zr1, zr2, zr3⟩, fr0, fr1, fr2, fr3⟩ := cells4 hrb.out
            go_wp2
            try simp only [Exit.inBlock, Exit.then]
            refine bodyPost_ret (results_cell_row rfl _ _ (w.heap.size + 1) 26 _ (0, 0) _ rfl (blk4 hrb.out) Try.underlying26 rfl infoPg) rfl ?_
            exact ⟨Xa, _, Ya, cx, cap1, cy, rfl, J2.pg HP.out (J2.low4 hJ.out (by omega) (by omega)), bel_set4 HYB.out HYB.out.size (by omega), fun i k hi hk => J2.mut HP.out (J2.low4 hJ.out (by omega) (by omega)) hi hk⟩

end Go.Proofs.Ytcjkhbggongcjaa
