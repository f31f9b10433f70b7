/-
  The walk of the specification's Copy, once more: what it hands back may be written to.
  A copied program whose offsets are set one after another; the names in a row.
  The walk of the law's plain.
-/
import Derived.Test.YtekfhgldebhigaaDoorTP
import Derived.Deep.RegionHeld3
import Derived.Laws.ResultCell
import Derived.Test.YtekfhgldebhigaaDoorTG
set_option linter.all false
namespace Go.Proofs.YtekfhgldebhigaaDoor
open Go.RowKit C
theorem top3 (W : World) (o1 o2 : Obj) : ((W.alloc o1).alloc o2).heap[W.heap.size]? = some o1 ∧ ((W.alloc o1).alloc o2).heap[W.heap.size + 1]? = some o2 := ⟨heap2a W o1 o2, heap2 W o1 o2⟩
/-- What Copy hands back. -/
def CpMu (p : Pg) (w : World) (e : Ending) (w' : World) : Prop := ∃ A B D ca cb cd ys zs, e = .returned (pv p A B D ca cb cd) ∧ MuD p (w.heap.size + 2) A B D ca cb cd ys zs w' ∧ Below w.heap.size w w'
set_option maxRecDepth 100000 in
set_option maxHeartbeats 32000000 in
theorem copy_mu (p : Pg) (A B D : Option Addr) (ca cb cd : Nat) (w : World) (hp : PgAt w p A B D ca cb cd) (hz : Sz p)  : Calls Tryd.prog 27 #[pv p A B D ca cb cd] w (CpMu p w) := by
  have HP := Lib.hid hp
  have HZ := Lib.hid hz
  have HN := Lib.hid ((B1.new p A B D ca cb cd w).keep (below1 _ (.cells #[.slice none 0 0, .slice none 0 0, .slice none 0 0, .int .i64 0] 26)))
  have hzg := hz.g
  obtain ⟨iG, hiG, hzG0, hzG1, hzG2⟩ := info_parts infoGl
  have hh0 := Lib.hid (top3 w (.cells #[.slice A p.funcs.length ca, .slice B p.globals.length cb, .slice D p.layouts.length cd, .int .i64 p.main] 26) (.cells #[.slice none 0 0, .slice none 0 0, .slice none 0 0, .int .i64 0] 26))
  have HB1 := Lib.hid (below2 w (.cells #[.slice A p.funcs.length ca, .slice B p.globals.length cb, .slice D p.layouts.length cd, .int .i64 p.main] 26) (.cells #[.slice none 0 0, .slice none 0 0, .slice none 0 0, .int .i64 0] 26))
  have hzf := hz.f
  have hzl := hz.l
  obtain ⟨i0, hi0, hz00, hz01, hz02⟩ := info_parts infoI
  obtain ⟨iI, hiI, hzI0, hzI1, hzI2⟩ := info_parts infoIn
  obtain ⟨iF, hiF, hzF0, hzF1, hzF2⟩ := info_parts infoFn
  obtain ⟨iL, hiL, hzL0, hzL1, hzL2⟩ := info_parts infoLy
  clear hp hz
  have hS0 : (((w.alloc (.cells #[.slice A p.funcs.length ca, .slice B p.globals.length cb, .slice D p.layouts.length cd, .int .i64 p.main] 26)).alloc (.cells #[.slice none 0 0, .slice none 0 0, .slice none 0 0, .int .i64 0] 26))).drew.cell? ⟨w.heap.size, 0, none⟩ = some (.slice A p.funcs.length ca) ∧ (((w.alloc (.cells #[.slice A p.funcs.length ca, .slice B p.globals.length cb, .slice D p.layouts.length cd, .int .i64 p.main] 26)).alloc (.cells #[.slice none 0 0, .slice none 0 0, .slice none 0 0, .int .i64 0] 26))).drew.cell? ⟨w.heap.size, 1, none⟩ = some (.slice B p.globals.length cb) ∧ (((w.alloc (.cells #[.slice A p.funcs.length ca, .slice B p.globals.length cb, .slice D p.layouts.length cd, .int .i64 p.main] 26)).alloc (.cells #[.slice none 0 0, .slice none 0 0, .slice none 0 0, .int .i64 0] 26))).drew.cell? ⟨w.heap.size, 2, none⟩ = some (.slice D p.layouts.length cd) ∧ (((w.alloc (.cells #[.slice A p.funcs.length ca, .slice B p.globals.length cb, .slice D p.layouts.length cd, .int .i64 p.main] 26)).alloc (.cells #[.slice none 0 0, .slice none 0 0, .slice none 0 0, .int .i64 0] 26))).drew.cell? ⟨w.heap.size, 3, none⟩ = some (.int .i64 p.main) ∧ Below w.heap.size w ((((w.alloc (.cells #[.slice A p.funcs.length ca, .slice B p.globals.length cb, .slice D p.layouts.length cd, .int .i64 p.main] 26)).alloc (.cells #[.slice none 0 0, .slice none 0 0, .slice none 0 0, .int .i64 0] 26))).drew) := B1.drew HN.out
  have KA : Hid (∀ (V : World) (o : Obj), (V.cell? ⟨w.heap.size, 0, none⟩ = some (.slice A p.funcs.length ca) ∧ V.cell? ⟨w.heap.size, 1, none⟩ = some (.slice B p.globals.length cb) ∧ V.cell? ⟨w.heap.size, 2, none⟩ = some (.slice D p.layouts.length cd) ∧ V.cell? ⟨w.heap.size, 3, none⟩ = some (.int .i64 p.main) ∧ Below w.heap.size w (V)) → ((V.alloc o).cell? ⟨w.heap.size, 0, none⟩ = some (.slice A p.funcs.length ca) ∧ (V.alloc o).cell? ⟨w.heap.size, 1, none⟩ = some (.slice B p.globals.length cb) ∧ (V.alloc o).cell? ⟨w.heap.size, 2, none⟩ = some (.slice D p.layouts.length cd) ∧ (V.alloc o).cell? ⟨w.heap.size, 3, none⟩ = some (.int .i64 p.main) ∧ Below w.heap.size w ((V.alloc o)))) := Lib.hid fun V o h => B1.keep (p := p) (A := A) (B := B) (D := D) (ca := ca) (cb := cb) (cd := cd) (w := w) h (below1 _ _)
  have KD : Hid (∀ (V : World) (o : Obj), (V.drew.cell? ⟨w.heap.size, 0, none⟩ = some (.slice A p.funcs.length ca) ∧ V.drew.cell? ⟨w.heap.size, 1, none⟩ = some (.slice B p.globals.length cb) ∧ V.drew.cell? ⟨w.heap.size, 2, none⟩ = some (.slice D p.layouts.length cd) ∧ V.drew.cell? ⟨w.heap.size, 3, none⟩ = some (.int .i64 p.main) ∧ Below w.heap.size w (V.drew)) → ((V.alloc o).drew.cell? ⟨w.heap.size, 0, none⟩ = some (.slice A p.funcs.length ca) ∧ (V.alloc o).drew.cell? ⟨w.heap.size, 1, none⟩ = some (.slice B p.globals.length cb) ∧ (V.alloc o).drew.cell? ⟨w.heap.size, 2, none⟩ = some (.slice D p.layouts.length cd) ∧ (V.alloc o).drew.cell? ⟨w.heap.size, 3, none⟩ = some (.int .i64 p.main) ∧ Below w.heap.size w ((V.alloc o).drew))) := Lib.hid fun V o h => KA.out V.drew o h
  have KS : Hid (∀ (V : World) (b j : Nat) (v : Value), w.heap.size < b → (V.cell? ⟨w.heap.size, 0, none⟩ = some (.slice A p.funcs.length ca) ∧ V.cell? ⟨w.heap.size, 1, none⟩ = some (.slice B p.globals.length cb) ∧ V.cell? ⟨w.heap.size, 2, none⟩ = some (.slice D p.layouts.length cd) ∧ V.cell? ⟨w.heap.size, 3, none⟩ = some (.int .i64 p.main) ∧ Below w.heap.size w (V)) → ((V.setCell ⟨b, j, none⟩ v).cell? ⟨w.heap.size, 0, none⟩ = some (.slice A p.funcs.length ca) ∧ (V.setCell ⟨b, j, none⟩ v).cell? ⟨w.heap.size, 1, none⟩ = some (.slice B p.globals.length cb) ∧ (V.setCell ⟨b, j, none⟩ v).cell? ⟨w.heap.size, 2, none⟩ = some (.slice D p.layouts.length cd) ∧ (V.setCell ⟨b, j, none⟩ v).cell? ⟨w.heap.size, 3, none⟩ = some (.int .i64 p.main) ∧ Below w.heap.size w ((V.setCell ⟨b, j, none⟩ v)))) := Lib.hid fun V b j v hb h => B1.setC (p := p) (A := A) (B := B) (D := D) (ca := ca) (cb := cb) (cd := cd) (w := w) h hb
  have KG : Hid (∀ (V V' : World) (row : Option Nat), V.grownBy V' row → w.heap.size + 1 ≤ V.heap.size → (∀ q, row = some q → w.heap.size + 1 ≤ q) → (V.cell? ⟨w.heap.size, 0, none⟩ = some (.slice A p.funcs.length ca) ∧ V.cell? ⟨w.heap.size, 1, none⟩ = some (.slice B p.globals.length cb) ∧ V.cell? ⟨w.heap.size, 2, none⟩ = some (.slice D p.layouts.length cd) ∧ V.cell? ⟨w.heap.size, 3, none⟩ = some (.int .i64 p.main) ∧ Below w.heap.size w (V)) → (V'.cell? ⟨w.heap.size, 0, none⟩ = some (.slice A p.funcs.length ca) ∧ V'.cell? ⟨w.heap.size, 1, none⟩ = some (.slice B p.globals.length cb) ∧ V'.cell? ⟨w.heap.size, 2, none⟩ = some (.slice D p.layouts.length cd) ∧ V'.cell? ⟨w.heap.size, 3, none⟩ = some (.int .i64 p.main) ∧ Below w.heap.size w (V'))) := Lib.hid fun V V' row hg hs hr h => B1.grownK (p := p) (A := A) (B := B) (D := D) (ca := ca) (cb := cb) (cd := cd) (w := w) h hg hs hr
  have ownA : Hid (((((w.alloc (.cells #[.slice A p.funcs.length ca, .slice B p.globals.length cb, .slice D p.layouts.length cd, .int .i64 p.main] 26)).alloc (.cells #[.slice none 0 0, .slice none 0 0, .slice none 0 0, .int .i64 0] 26)).alloc (.cells #[] 45)).drew).ownsRow (w.heap.size + 2) 45 2 (.slice (some ⟨w.heap.size + 2, 0, none⟩) 0 0) 0 []) := Lib.hid (own_e (heap_new2 w _ _ (.cells #[] 45)) (by omega))
  have newsA : Hid (0 < p.globals.length → ∃ ad, B = some ad ∧ ∀ j u, ((p.globals.map glC).flatten)[j]? = some u → ((((w.alloc (.cells #[.slice A p.funcs.length ca, .slice B p.globals.length cb, .slice D p.layouts.length cd, .int .i64 p.main] 26)).alloc (.cells #[.slice none 0 0, .slice none 0 0, .slice none 0 0, .int .i64 0] 26)).alloc (.cells #[] 45)).drew).cell? (ad.add j) = some u) := Lib.hid (by
    intro hg
    obtain ⟨gG, oG, hB, hG⟩ := HP.out.gs.at hg
    exact ⟨_, hB, news_row (cl := glC) (k := 2) (fun _ => rfl) (by omega) gl_cells (fun i hi => (hG i hi).below (Below.drew (HB1.out.alloc HB1.out.size (.cells #[] 45))))⟩)
  have sizeA : Hid (((((w.alloc (.cells #[.slice A p.funcs.length ca, .slice B p.globals.length cb, .slice D p.layouts.length cd, .int .i64 p.main] 26)).alloc (.cells #[.slice none 0 0, .slice none 0 0, .slice none 0 0, .int .i64 0] 26)).alloc (.cells #[] 45)).drew).heap.size = w.heap.size + 3) := Lib.hid (by simp)
  have rbxA : Hid (((((w.alloc (.cells #[.slice A p.funcs.length ca, .slice B p.globals.length cb, .slice D p.layouts.length cd, .int .i64 p.main] 26)).alloc (.cells #[.slice none 0 0, .slice none 0 0, .slice none 0 0, .int .i64 0] 26)).alloc (.cells #[] 45)).drew).heap[w.heap.size + 1]? = some (.cells #[.slice none 0 0, .slice none 0 0, .slice none 0 0, .int .i64 0] 26)) := Lib.hid (rb_A (heap2 w _ _))
  have ownB : Hid ((((((w.alloc (.cells #[.slice A p.funcs.length ca, .slice B p.globals.length cb, .slice D p.layouts.length cd, .int .i64 p.main] 26)).alloc (.cells #[.slice none 0 0, .slice none 0 0, .slice none 0 0, .int .i64 0] 26)).alloc (.cells #[] 45)).alloc (.cells #[.slice none 0 0, .slice none 0 0, .slice none 0 0, .int .i64 0] 26)).drew).ownsRow (w.heap.size + 2) 45 2 (.slice (some ⟨w.heap.size + 2, 0, none⟩) 0 0) 0 []) := Lib.hid (own_e (heap_mid2 w _ _ (.cells #[] 45) (.cells #[.slice none 0 0, .slice none 0 0, .slice none 0 0, .int .i64 0] 26)) (by omega))
  have newsB : Hid (0 < p.globals.length → ∃ ad, B = some ad ∧ ∀ j u, ((p.globals.map glC).flatten)[j]? = some u → (((((w.alloc (.cells #[.slice A p.funcs.length ca, .slice B p.globals.length cb, .slice D p.layouts.length cd, .int .i64 p.main] 26)).alloc (.cells #[.slice none 0 0, .slice none 0 0, .slice none 0 0, .int .i64 0] 26)).alloc (.cells #[] 45)).alloc (.cells #[.slice none 0 0, .slice none 0 0, .slice none 0 0, .int .i64 0] 26)).drew).cell? (ad.add j) = some u) := Lib.hid (by
    intro hg
    obtain ⟨gG, oG, hB, hG⟩ := HP.out.gs.at hg
    exact ⟨_, hB, news_row (cl := glC) (k := 2) (fun _ => rfl) (by omega) gl_cells (fun i hi => (hG i hi).below (Below.drew ((HB1.out.alloc HB1.out.size (.cells #[] 45)).alloc (by first | (simp; done) | (simp; omega) | omega) (.cells #[.slice none 0 0, .slice none 0 0, .slice none 0 0, .int .i64 0] 26))))⟩)
  have sizeB : Hid ((((((w.alloc (.cells #[.slice A p.funcs.length ca, .slice B p.globals.length cb, .slice D p.layouts.length cd, .int .i64 p.main] 26)).alloc (.cells #[.slice none 0 0, .slice none 0 0, .slice none 0 0, .int .i64 0] 26)).alloc (.cells #[] 45)).alloc (.cells #[.slice none 0 0, .slice none 0 0, .slice none 0 0, .int .i64 0] 26)).drew).heap.size = w.heap.size + 4) := Lib.hid (by simp)
  have rbxB : Hid ((((((w.alloc (.cells #[.slice A p.funcs.length ca, .slice B p.globals.length cb, .slice D p.layouts.length cd, .int .i64 p.main] 26)).alloc (.cells #[.slice none 0 0, .slice none 0 0, .slice none 0 0, .int .i64 0] 26)).alloc (.cells #[] 45)).alloc (.cells #[.slice none 0 0, .slice none 0 0, .slice none 0 0, .int .i64 0] 26)).drew).heap[w.heap.size + 1]? = some (.cells #[.slice none 0 0, .slice none 0 0, .slice none 0 0, .int .i64 0] 26)) := Lib.hid (rb_A (rb_A (heap2 w _ _)))
  have ownC : Hid ((((((w.alloc (.cells #[.slice A p.funcs.length ca, .slice B p.globals.length cb, .slice D p.layouts.length cd, .int .i64 p.main] 26)).alloc (.cells #[.slice none 0 0, .slice none 0 0, .slice none 0 0, .int .i64 0] 26)).alloc (.cells #[.slice none 0 0, .slice none 0 0, .slice none 0 0, .int .i64 0] 26)).alloc (.cells #[] 45)).drew).ownsRow (w.heap.size + 2) 45 2 (.slice (some ⟨w.heap.size + 3, 0, none⟩) 0 0) 0 []) := Lib.hid (own_e (heap_new3 w _ _ (.cells #[.slice none 0 0, .slice none 0 0, .slice none 0 0, .int .i64 0] 26) (.cells #[] 45)) (by omega))
  have newsC : Hid (0 < p.globals.length → ∃ ad, B = some ad ∧ ∀ j u, ((p.globals.map glC).flatten)[j]? = some u → (((((w.alloc (.cells #[.slice A p.funcs.length ca, .slice B p.globals.length cb, .slice D p.layouts.length cd, .int .i64 p.main] 26)).alloc (.cells #[.slice none 0 0, .slice none 0 0, .slice none 0 0, .int .i64 0] 26)).alloc (.cells #[.slice none 0 0, .slice none 0 0, .slice none 0 0, .int .i64 0] 26)).alloc (.cells #[] 45)).drew).cell? (ad.add j) = some u) := Lib.hid (by
    intro hg
    obtain ⟨gG, oG, hB, hG⟩ := HP.out.gs.at hg
    exact ⟨_, hB, news_row (cl := glC) (k := 2) (fun _ => rfl) (by omega) gl_cells (fun i hi => (hG i hi).below (Below.drew ((HB1.out.alloc HB1.out.size (.cells #[.slice none 0 0, .slice none 0 0, .slice none 0 0, .int .i64 0] 26)).alloc (by first | (simp; done) | (simp; omega) | omega) (.cells #[] 45))))⟩)
  have sizeC : Hid ((((((w.alloc (.cells #[.slice A p.funcs.length ca, .slice B p.globals.length cb, .slice D p.layouts.length cd, .int .i64 p.main] 26)).alloc (.cells #[.slice none 0 0, .slice none 0 0, .slice none 0 0, .int .i64 0] 26)).alloc (.cells #[.slice none 0 0, .slice none 0 0, .slice none 0 0, .int .i64 0] 26)).alloc (.cells #[] 45)).drew).heap.size = w.heap.size + 4) := Lib.hid (by simp)
  have rbxC : Hid ((((((w.alloc (.cells #[.slice A p.funcs.length ca, .slice B p.globals.length cb, .slice D p.layouts.length cd, .int .i64 p.main] 26)).alloc (.cells #[.slice none 0 0, .slice none 0 0, .slice none 0 0, .int .i64 0] 26)).alloc (.cells #[.slice none 0 0, .slice none 0 0, .slice none 0 0, .int .i64 0] 26)).alloc (.cells #[] 45)).drew).heap[w.heap.size + 1]? = some (.cells #[.slice none 0 0, .slice none 0 0, .slice none 0 0, .int .i64 0] 26)) := Lib.hid (rb_A (rb_A (heap2 w _ _)))
  go_enter Tryd.func27, Tryd.ntmps27
  go_wp2_with fail
  go_region_held3 (fun w' => w'.cell? ⟨w.heap.size, 0, none⟩ = some (.slice A p.funcs.length ca) ∧ w'.cell? ⟨w.heap.size, 1, none⟩ = some (.slice B p.globals.length cb) ∧ w'.cell? ⟨w.heap.size, 2, none⟩ = some (.slice D p.layouts.length cd) ∧ w'.cell? ⟨w.heap.size, 3, none⟩ = some (.int .i64 p.main) ∧ Below w.heap.size w w')
    (first
        | (with_reducible assumption)
        | (with_reducible exact HS4.out)
        | (with_reducible exact KA.out _ _ HS4.out)
        | ((with_reducible refine KD.out _ _ ?_); with_reducible assumption)
        | ((with_reducible refine KA.out _ _ ?_); with_reducible assumption)
        | ((with_reducible refine KG.out _ _ _ hgrow1 (by first | (simp; done) | (simp; omega) | omega) (by intro q hq; simp [Value.ownBlock] at hq; omega) ?_); with_reducible assumption)
        | ((with_reducible refine KS.out _ _ _ _ ?_ (KS.out _ _ _ _ ?_ (KS.out _ _ _ _ ?_ (KS.out _ _ _ _ ?_ ?_)))); (omega); (omega); (omega); (omega); with_reducible assumption))
    (first
      | (refine step_append_e _ (by rfl) _ _ _ (by rfl) (w.heap.size + 2) 45 iG _ 2 24 Tryd.underlying23 hiG hzG0 hzG1 hzG2 rfl (by omega) (w.heap.size + 2) (by rfl) ownA.out B p.globals.length cb ((p.globals.map glC).flatten) (by rfl) (flat_len (cl := glC) (k := 2) (fun _ => rfl) _) newsA.out (one_flat (cl := glC) gl_one) (by unfold maxLen; omega) (by omega) (by rw [sizeA.out]; omega) (w.heap.size + 3) sizeA.out ?_; intro g1 cap1 w4 hown1 hgrow1 hat1 hlt1; have HS4 := Lib.hid (KG.out _ _ _ hgrow1 (by rw [sizeA.out]; omega) (by intro q hq; have hq2 := Option.some.inj hq; omega) (by with_reducible assumption)); have hs4 := hgrow1.size; rw [sizeA.out] at hs4; have HR4 := Lib.hid ((hgrow1.block (w.heap.size + 1) (by rw [sizeA.out]; omega) (by intro e; have e2 := Option.some.inj e; omega)).trans rbxA.out); have HCG := Lib.hid (cg_new (base := w.heap.size + 2) (g := g1) (y := (glRow p (.slice (some ⟨g1, 0, none⟩) p.globals.length cap1))) (main := .int .i64 p.main) rfl hown1))
      | (refine step_append_e _ (by rfl) _ _ _ (by rfl) (w.heap.size + 2) 45 iG _ 2 24 Tryd.underlying23 hiG hzG0 hzG1 hzG2 rfl (by omega) (w.heap.size + 2) (by rfl) ownB.out B p.globals.length cb ((p.globals.map glC).flatten) (by rfl) (flat_len (cl := glC) (k := 2) (fun _ => rfl) _) newsB.out (one_flat (cl := glC) gl_one) (by unfold maxLen; omega) (by omega) (by rw [sizeB.out]; omega) (w.heap.size + 4) sizeB.out ?_; intro g1 cap1 w4 hown1 hgrow1 hat1 hlt1; have HS4 := Lib.hid (KG.out _ _ _ hgrow1 (by rw [sizeB.out]; omega) (by intro q hq; have hq2 := Option.some.inj hq; omega) (by with_reducible assumption)); have hs4 := hgrow1.size; rw [sizeB.out] at hs4; have HR4 := Lib.hid ((hgrow1.block (w.heap.size + 1) (by rw [sizeB.out]; omega) (by intro e; have e2 := Option.some.inj e; omega)).trans rbxB.out); have HBX := Lib.hid ((hgrow1.block (w.heap.size + 3) (by first | (simp; done) | (simp; omega) | omega) (by simp [Value.ownBlock])).trans (heap_new3 w _ _ (.cells #[] 45) (.cells #[.slice none 0 0, .slice none 0 0, .slice none 0 0, .int .i64 0] 26))); obtain ⟨⟨zb0, zb1, zb2, zb3⟩, fb0, fb1, fb2, fb3⟩ := cells4 HBX.out; have HCG := Lib.hid (cg_set (base := w.heap.size + 2) (g := g1) (ob := w.heap.size + 1 + 1 + 1) (y := (glRow p (.slice (some ⟨g1, 0, none⟩) p.globals.length cap1))) (main := .int .i64 p.main) rfl (by omega) HBX.out hown1))
      | (refine step_append_e _ (by rfl) _ _ _ (by rfl) (w.heap.size + 2) 45 iG _ 2 24 Tryd.underlying23 hiG hzG0 hzG1 hzG2 rfl (by omega) (w.heap.size + 3) (by rfl) ownC.out B p.globals.length cb ((p.globals.map glC).flatten) (by rfl) (flat_len (cl := glC) (k := 2) (fun _ => rfl) _) newsC.out (one_flat (cl := glC) gl_one) (by unfold maxLen; omega) (by omega) (by rw [sizeC.out]; omega) (w.heap.size + 4) sizeC.out ?_; intro g1 cap1 w4 hown1 hgrow1 hat1 hlt1; have HS4 := Lib.hid (KG.out _ _ _ hgrow1 (by rw [sizeC.out]; omega) (by intro q hq; have hq2 := Option.some.inj hq; omega) (by with_reducible assumption)); have hs4 := hgrow1.size; rw [sizeC.out] at hs4; have HR4 := Lib.hid ((hgrow1.block (w.heap.size + 1) (by rw [sizeC.out]; omega) (by intro e; have e2 := Option.some.inj e; omega)).trans rbxC.out); have HBX := Lib.hid ((hgrow1.block (w.heap.size + 2) (by first | (simp; done) | (simp; omega) | omega) (by simp [Value.ownBlock])).trans (heap_mid2 w _ _ (.cells #[.slice none 0 0, .slice none 0 0, .slice none 0 0, .int .i64 0] 26) (.cells #[] 45))); obtain ⟨⟨zb0, zb1, zb2, zb3⟩, fb0, fb1, fb2, fb3⟩ := cells4 HBX.out; have HCG := Lib.hid (cg_set (base := w.heap.size + 2) (g := g1) (ob := w.heap.size + 1 + 1) (y := (glRow p (.slice (some ⟨g1, 0, none⟩) p.globals.length cap1))) (main := .int .i64 p.main) rfl (by omega) HBX.out hown1)))
  · go_wp2
    go_loopw [4] (fun i wr => ∃ (k : Nat) (ys : List (Fc × Value)) (Xa : Option Addr) (cx : Nat) (R : List Rw), k ≤ p.funcs.length ∧ i = .int .i64 k ∧ Hid (J1 p (w.heap.size + 2) w4.heap.size (.slice (some ⟨g1, 0, none⟩) p.globals.length cap1) k ys Xa cx R wr) ∧ Hid (B1 p A B D ca cb cd w wr) ∧ Hid (wr.heap[w.heap.size + 1]? = some (.cells #[.slice none 0 0, .slice none 0 0, .slice none 0 0, .int .i64 0] 26))) (fun i _ => p.funcs.length - (intOf i).toNat)
    case atStart => exact ⟨0, [], none, 0, _, Nat.zero_le _, rfl, Lib.hid ⟨rfl, HCG.out, by simp, List.mem_singleton_self _, by simp, List.Pairwise.nil⟩, Lib.hid (by unfold B1; with_reducible assumption), Lib.hid (by first | (with_reducible exact rb_A HR4.out) | (with_reducible exact rb_S HR4.out (by omega)))⟩
    case round =>
      obtain ⟨k, ys, Xa, cx, R, hk, rfl, hJ, hbx, hrb⟩ := hrel
      obtain ⟨y00, y01, y02, y03, yb⟩ := hbx.out
      have HYB := Lib.hid yb
      have hwr := yb.size
      clear yb
      obtain ⟨⟨z0, z1, z2, z3⟩, fz0, fz1, fz2, fz3⟩ := cells4 hJ.out.cg.box
      have hobl := (Array.getElem?_eq_some_iff.1 hJ.out.cg.box).1
      by_cases hlt : k < p.funcs.length
      · obtain ⟨gx, ox, rfl, hA⟩ := HP.out.fs.at (by omega)
        have hx := (hA k hlt).below HYB.out
        obtain ⟨x, hxe⟩ : ∃ x, p.funcs[k] = x := ⟨_, rfl⟩
        rw [hxe] at hx
        have u0 := hx.c0
        have u1 := hx.c1
        have u2 := hx.c2
        obtain ⟨AX, cX, u3, _, mX, rX⟩ := hx.row
        have HX := Lib.hid hxe
        have HR := Lib.hid rX
        have hxc : x.code.length ≤ 1048576 := HZ.out.c x (hxe ▸ List.getElem_mem _)
        have kk0 : (0 : Int) ≤ (k : Int) := by omega
        have kk1 : (k : Int) < (p.funcs.length : Int) := by omega
        clear hx hA hxe rX
        have own6 : Hid ((((wr.alloc (.cells #[.string x.name, .int .i64 x.params, .int .i64 x.regs, .slice AX x.code.length cX] 37)).alloc (.cells #[] 34))).ownsRow (w.heap.size + 2) 34 5 (.slice (some ⟨wr.heap.size + 1, 0, none⟩) 0 0) 0 []) := Lib.hid (own_e (heap2 wr (.cells #[.string x.name, .int .i64 x.params, .int .i64 x.regs, .slice AX x.code.length cX] 37) (.cells #[] 34)) (by omega))
        have news6 : Hid (0 < x.code.length → ∃ ad, AX = some ad ∧ ∀ j u, ((x.code.map inC).flatten)[j]? = some u → (((wr.alloc (.cells #[.string x.name, .int .i64 x.params, .int .i64 x.regs, .slice AX x.code.length cX] 37)).alloc (.cells #[] 34))).cell? (ad.add j) = some u) := Lib.hid (by
          intro hg
          obtain ⟨gG, oG, hB, hG⟩ := HR.out.at hg
          exact ⟨_, hB, news_row (cl := inC) (k := 5) (fun _ => rfl) (by omega) in_cells (fun i hi => (hG i hi).below (below2 wr _ _))⟩)
        have size6 : Hid ((((wr.alloc (.cells #[.string x.name, .int .i64 x.params, .int .i64 x.regs, .slice AX x.code.length cX] 37)).alloc (.cells #[] 34))).heap.size = wr.heap.size + 2) := Lib.hid (by simp)
        go_wp2_with (first
          | (at_builtin; refine wpList_append_e _ rfl _ _ _ rfl (w.heap.size + 2) 34 iI _ 5 40 Tryd.underlying35 hiI hzI0 hzI1 hzI2 rfl (by omega) (wr.heap.size + 1) rfl own6.out AX x.code.length cX ((x.code.map inC).flatten) rfl (flat_len (cl := inC) (k := 5) (fun _ => rfl) _) news6.out (one_flat (cl := inC) in_one) (by unfold maxLen; omega) (by omega) (by rw [size6.out]; omega) (wr.heap.size + 2) size6.out ?_; intro g5 cap5 w5 hown5 hgrow5 hat5 hlt5; have H6 := Lib.hid (after6 hown5 hgrow5 hat5 rfl); obtain ⟨⟨zc0, zc1, zc2, zc3⟩, fc0, fc1, fc2, fc3⟩ := cells4 ((hgrow5.block wr.heap.size (by rw [size6.out]; omega) (by simp)).trans (heap2a wr (.cells #[.string x.name, .int .i64 x.params, .int .i64 x.regs, .slice AX x.code.length cX] 37) (.cells #[] 34))); obtain ⟨⟨zd0, zd1, zd2, zd3⟩, -⟩ := cells4 H6.out.1; obtain ⟨⟨ze0, ze1, ze2, ze3⟩, -⟩ := cells4 ((H6.out.2.1.block _ hobl).trans hJ.out.cg.box); have hs5 := hgrow5.size; rw [size6.out] at hs5)
          | (at_builtin; refine wpList_append_lies _ rfl _ _ _ rfl (w.heap.size + 2) 37 iF _ 4 56 Tryd.underlying22 hiF hzF0 hzF1 hzF2 rfl (by omega) (.slice Xa k cx) k ((ys.map fnC).flatten) rfl (World.ownsRow.alloc (own_keepN hJ.out.cg.x H6.out.2.1) (.cells #[.string x.name, .int .i64 x.params, .int .i64 x.regs, (.slice (some ⟨g5, 0, none⟩) x.code.length cap5)] 37)) ⟨w5.heap.size, 0, none⟩ 1 1 (fnC (x, (.slice (some ⟨g5, 0, none⟩) x.code.length cap5))) rfl rfl (World.news_of_block (new_set w5 wr.heap.size 3 (.slice (some ⟨g5, 0, none⟩) x.code.length cap5) (.cells #[.string x.name, .int .i64 x.params, .int .i64 x.regs, (.slice (some ⟨g5, 0, none⟩) x.code.length cap5)] 37))) (fn_one x g5 cap5 x.code.length) (by omega) (by unfold maxLen; omega) (by omega) (by simp; omega) (w5.heap.size + 1) (by simp) ?_; intro g2 cap2 w7 hown2 hgrow2 hat2 hlt2; have HBX7 := Lib.hid ((hgrow2.block _ (by simp; omega) (fun e => hJ.out.cg.xob e.symm)).trans (((Below.refl _ _).alloc (Nat.le_refl _) (.cells #[.string x.name, .int .i64 x.params, .int .i64 x.regs, (.slice (some ⟨g5, 0, none⟩) x.code.length cap5)] 37)).block _ (by simp; omega) |>.trans ((H6.out.2.1.block _ hobl).trans hJ.out.cg.box))); obtain ⟨⟨zg0, zg1, zg2, zg3⟩, fg0, fg1, fg2, fg3⟩ := cells4 HBX7.out))
        have HB5 := Lib.hid (H6.out.2.1.alloc H6.out.2.1.size (.cells #[.string x.name, .int .i64 x.params, .int .i64 x.regs, (.slice (some ⟨g5, 0, none⟩) x.code.length cap5)] 37))
        go_roundw
        case rel =>
          refine ⟨k + 1, ys ++ [(x, (.slice (some ⟨g5, 0, none⟩) x.code.length cap5))], some ⟨g2, 0, none⟩, cap2, codeRow (x, (.slice (some ⟨g5, 0, none⟩) x.code.length cap5)) :: R, by omega, by go_num, Lib.hid (J1.next hJ.out hlt HX.out HB5.out (World.ownsRow.alloc H6.out.2.2.1 _) (by omega) hown2 hgrow2 (hat2.imp id fun e => by rw [e]; simp)), Lib.hid ?_, Lib.hid ((cg_old (base := w.heap.size + 2) (w := w) (by omega) (by omega) HB5.out hgrow2 (fun j hj => own_ge hJ.out.cg.x hj) (by omega)).trans hrb.out)⟩
          refine B1.setC (B1.grownK (hbx.out.keep HB5.out) hgrow2 (by have := HB5.out.size; omega) (fun j hj => ?_)) (by omega)
          have := own_ge hJ.out.cg.x hj
          omega
        case measure => simp [intOf]; omega
      · obtain rfl : k = p.funcs.length := by omega
        have HJ2 := Lib.hid (J2.start hJ.out)
        go_wp2
        clear hJ z0 z1 z2 z3 fz0 fz1 fz2 fz3 y00 y01 y02 y03 hobl hlt
        go_loopw [6] (fun i wr => ∃ (j : Nat) (zs : List (List Int × Value)) (Ya : Option Addr) (cy : Nat) (R : List Rw), j ≤ p.layouts.length ∧ i = .int .i64 j ∧ Hid (J2 p (w.heap.size + 2) w4.heap.size (.slice (some ⟨g1, 0, none⟩) p.globals.length cap1) ys Xa cx j zs Ya cy R wr) ∧ Hid (B1 p A B D ca cb cd w wr) ∧ Hid (wr.heap[w.heap.size + 1]? = some (.cells #[.slice none 0 0, .slice none 0 0, .slice none 0 0, .int .i64 0] 26))) (fun i _ => p.layouts.length - (intOf i).toNat)
        case atStart => exact ⟨0, [], none, 0, _, Nat.zero_le _, rfl, HJ2, hbx, hrb⟩
        case round =>
          clear hbx hrb HYB hwr HJ2
          obtain ⟨j, zs, Ya, cy, R, hj, rfl, hJ, hbx, hrb⟩ := hrel
          obtain ⟨y00, y01, y02, y03, yb⟩ := hbx.out
          have HYB := Lib.hid yb
          have hwr := yb.size
          clear yb
          obtain ⟨⟨z0, z1, z2, z3⟩, fz0, fz1, fz2, fz3⟩ := cells4 hJ.out.cg.box
          have hobl := (Array.getElem?_eq_some_iff.1 hJ.out.cg.box).1
          have hyl := World.block_lt_of_cell? wr _ y00
          simp only at hyl
          by_cases hlt : j < p.layouts.length
          · obtain ⟨gx, ox, rfl, hA⟩ := HP.out.ls.at (by omega)
            have hx0 := hA j hlt
            have hgx := hx0.lt
            have hx := hx0.below HYB.out
            obtain ⟨x, hxe⟩ : ∃ x, p.layouts[j] = x := ⟨_, rfl⟩
            rw [hxe, Nat.mul_one] at hx
            obtain ⟨AX, cX, u0, _, mX, rX⟩ := hx.row
            have HX := Lib.hid hxe
            have HR := Lib.hid rX
            have hxc : x.length ≤ 1048576 := HZ.out.r x (hxe ▸ List.getElem_mem _)
            have kk0 : (0 : Int) ≤ (j : Int) := by omega
            have kk1 : (j : Int) < (p.layouts.length : Int) := by omega
            have KS2 : Hid (∀ V, Below (w.heap.size + 1) wr V → V.cell? ⟨w.heap.size, 2, none⟩ = some (.slice (some ⟨gx, ox, none⟩) p.layouts.length cd) ∧ V.cell? ⟨gx, ox + j, none⟩ = some (.slice AX x.length cX) ∧ Below (w.heap.size + 1) wr V) := Lib.hid fun V hV => ⟨(hV.cell (p := ⟨w.heap.size, 2, none⟩) (by simp)).trans y02, (hV.cell (p := ⟨gx, ox + j, none⟩) (by simp; omega)).trans u0, hV⟩
            clear hx0 hx hA hxe rX
            have HB0 : Hid (Below (w.heap.size + 1) wr wr.drew) := Lib.hid (Below.drew (Below.refl _ _))
            have HBa : Hid (Below (w.heap.size + 1) wr ((wr.alloc (.cells #[] 3)).drew)) := Lib.hid (Below.mono (Below.drew (below1 wr (.cells #[] 3))) (by omega))
            have own7 : Hid (((wr.alloc (.cells #[] 3)).drew).ownsRow (w.heap.size + 2) 3 1 (.slice (some ⟨wr.heap.size, 0, none⟩) 0 0) 0 []) := Lib.hid (own_e (heap_alloc_new wr (.cells #[] 3)) (by omega))
            have news7 : Hid (0 < x.length → ∃ ad, AX = some ad ∧ ∀ j u, (x.map (Value.int .i64))[j]? = some u → ((wr.alloc (.cells #[] 3)).drew).cell? (ad.add j) = some u) := Lib.hid (by
              intro hg
              obtain ⟨gG, oG, hB, hG⟩ := HR.out.at hg
              exact ⟨_, hB, news_ints (fun i hi => (hG i hi).below (Below.drew (below1 wr _)))⟩)
            have size7 : Hid (((wr.alloc (.cells #[] 3)).drew).heap.size = wr.heap.size + 1) := Lib.hid (by simp)
            have za : (wr.alloc (.cells #[] 3)).cell? ⟨w4.heap.size, 2, none⟩ = some (.slice Ya j cy) := (cell_bel z2 (below1 wr (.cells #[] 3)))
            have ua := cell_bel u0 (below1 wr (.cells #[] 3))
            have ya := cell_bel y02 (below1 wr (.cells #[] 3))
            go_wp2_with fail
            go_region_law
              (first
                | (refine step_append_e _ (by rfl) _ _ _ (by rfl) (w.heap.size + 2) 3 i0 _ 1 8 Tryd.underlying39 hi0 hz00 hz01 hz02 rfl (by omega) wr.heap.size (by rfl) own7.out AX x.length cX (x.map (Value.int .i64)) (by rfl) (by simp) news7.out (ints_one _) (by unfold maxLen; omega) (by omega) (by rw [size7.out]; omega) (wr.heap.size + 1) size7.out ?_; intro g5 cap5 w5 hown5 hgrow5 hat5 hlt5; have HW5 := Lib.hid ((Below.drew (below1 wr (.cells #[] 3))).grown hgrow5 (by rw [size7.out]; omega) (fun k hk => by cases hk; omega)); have hs5 := hgrow5.size; rw [size7.out] at hs5; have HB52 := Lib.hid (HW5.out.mono (show w.heap.size + 1 ≤ wr.heap.size by omega)); have HW53 := Lib.hid (HW5.out.alloc HW5.out.size (.cells #[(.slice (some ⟨g5, 0, none⟩) x.length cap5)] 39)); have HB53 := Lib.hid (HW53.out.mono (show w.heap.size + 1 ≤ wr.heap.size by omega)); have zb := cell_bel z2 HW5.out; have zc := cell_bel z2 HW53.out)
                | (refine step_append_lies _ (by rfl) _ _ _ (by rfl) (w.heap.size + 2) 39 iL _ 1 24 Tryd.underlying24 hiL hzL0 hzL1 hzL2 rfl (by omega) (.slice Ya j cy) j ((zs.map lyC).flatten) (by rfl) (World.ownsRow.alloc (own_keepN hJ.out.cg.x HW5.out) (.cells #[(.slice (some ⟨g5, 0, none⟩) x.length cap5)] 39)) ⟨w5.heap.size, 0, none⟩ 1 1 (lyC (x, (.slice (some ⟨g5, 0, none⟩) x.length cap5))) (by rfl) (by rfl) (World.news_of_block (heap_alloc_new w5 (.cells #[(.slice (some ⟨g5, 0, none⟩) x.length cap5)] 39))) (ly_one g5 cap5 x.length x) (by omega) (by unfold maxLen; omega) (by omega) (by simp; omega) (w5.heap.size + 1) (by simp) ?_; intro g2 cap2 w7 hown2 hgrow2 hat2 hlt2; have HBX7 := Lib.hid ((hgrow2.block _ (by simp; omega) (fun e => hJ.out.cg.xob e.symm)).trans ((HW53.out.block _ hobl).trans hJ.out.cg.box)); obtain ⟨⟨zg0, zg1, zg2, zg3⟩, fg0, fg1, fg2, fg3⟩ := cells4 HBX7.out; have HB54 := Lib.hid (HB53.out.grown hgrow2 (by simp; omega) (fun k hk => by have := own_ge hJ.out.cg.x hk; omega)); have HB55 := Lib.hid (HB54.out.grown (grown_set w7 (w4.heap.size) 2 (.slice (some ⟨g2, 0, none⟩) (j + 1) cap2)) (by have := hgrow2.size; simp at this; omega) (fun k hk => by cases hk; omega))))
            all_goals
              go_wp2
              go_roundw
              case rel =>
                refine ⟨j + 1, zs ++ [(x, (.slice (some ⟨g5, 0, none⟩) x.length cap5))], some ⟨g2, 0, none⟩, cap2, layRow (x, (.slice (some ⟨g5, 0, none⟩) x.length cap5)) :: R, by omega, by go_num, Lib.hid (J2.next hJ.out hlt HX.out HW53.out (World.ownsRow.alloc hown5 _) (by omega) hown2 hgrow2 (hat2.imp id fun e => by rw [e]; simp)), Lib.hid ?_, Lib.hid ((cg_old (base := w.heap.size + 2) (w := w) (by omega) (by omega) HW53.out hgrow2 (fun j hj => own_ge hJ.out.cg.x hj) (by omega)).trans hrb.out)⟩
                refine B1.setC (B1.grownK (hbx.out.keep HW53.out) hgrow2 (by have := HW53.out.size; omega) (fun j hj => ?_)) (by omega)
                have := own_ge hJ.out.cg.x hj
                omega
              case measure => simp [intOf]; omega
          · obtain rfl : j = p.layouts.length := by omega
            obtain ⟨⟨zr0, zr1, zr2, zr3⟩, fr0, fr1, fr2, fr3⟩ := cells4 hrb.out
            go_wp2
            try simp only [Exit.inBlock, Exit.then]
            refine bodyPost_ret (results_cell_row rfl _ _ (w.heap.size + 1) 26 _ (0, 0) _ rfl (blk4 hrb.out) Tryd.underlying26 rfl infoPg) rfl ?_
            exact ⟨Xa, _, Ya, cx, cap1, cy, _, _, rfl, J2.mu HP.out (J2.low4 hJ.out (by omega) (by omega)), bel_set4 HYB.out HYB.out.size (by omega)⟩

  · go_wp2
    go_loopw [4] (fun i wr => ∃ (k : Nat) (ys : List (Fc × Value)) (Xa : Option Addr) (cx : Nat) (R : List Rw), k ≤ p.funcs.length ∧ i = .int .i64 k ∧ Hid (J1 p (w.heap.size + 2) (w.heap.size + 1 + 1 + 1) (.slice (some ⟨g1, 0, none⟩) p.globals.length cap1) k ys Xa cx R wr) ∧ Hid (B1 p A B D ca cb cd w wr) ∧ Hid (wr.heap[w.heap.size + 1]? = some (.cells #[.slice none 0 0, .slice none 0 0, .slice none 0 0, .int .i64 0] 26))) (fun i _ => p.funcs.length - (intOf i).toNat)
    case atStart => exact ⟨0, [], none, 0, _, Nat.zero_le _, rfl, Lib.hid ⟨rfl, HCG.out, by simp, List.mem_singleton_self _, by simp, List.Pairwise.nil⟩, Lib.hid (by unfold B1; with_reducible assumption), Lib.hid (by first | (with_reducible exact rb_A HR4.out) | (with_reducible exact rb_S HR4.out (by omega)))⟩
    case round =>
      obtain ⟨k, ys, Xa, cx, R, hk, rfl, hJ, hbx, hrb⟩ := hrel
      obtain ⟨y00, y01, y02, y03, yb⟩ := hbx.out
      have HYB := Lib.hid yb
      have hwr := yb.size
      clear yb
      obtain ⟨⟨z0, z1, z2, z3⟩, fz0, fz1, fz2, fz3⟩ := cells4 hJ.out.cg.box
      have hobl := (Array.getElem?_eq_some_iff.1 hJ.out.cg.box).1
      by_cases hlt : k < p.funcs.length
      · obtain ⟨gx, ox, rfl, hA⟩ := HP.out.fs.at (by omega)
        have hx := (hA k hlt).below HYB.out
        obtain ⟨x, hxe⟩ : ∃ x, p.funcs[k] = x := ⟨_, rfl⟩
        rw [hxe] at hx
        have u0 := hx.c0
        have u1 := hx.c1
        have u2 := hx.c2
        obtain ⟨AX, cX, u3, _, mX, rX⟩ := hx.row
        have HX := Lib.hid hxe
        have HR := Lib.hid rX
        have hxc : x.code.length ≤ 1048576 := HZ.out.c x (hxe ▸ List.getElem_mem _)
        have kk0 : (0 : Int) ≤ (k : Int) := by omega
        have kk1 : (k : Int) < (p.funcs.length : Int) := by omega
        clear hx hA hxe rX
        have own6 : Hid ((((wr.alloc (.cells #[.string x.name, .int .i64 x.params, .int .i64 x.regs, .slice AX x.code.length cX] 37)).alloc (.cells #[] 34))).ownsRow (w.heap.size + 2) 34 5 (.slice (some ⟨wr.heap.size + 1, 0, none⟩) 0 0) 0 []) := Lib.hid (own_e (heap2 wr (.cells #[.string x.name, .int .i64 x.params, .int .i64 x.regs, .slice AX x.code.length cX] 37) (.cells #[] 34)) (by omega))
        have news6 : Hid (0 < x.code.length → ∃ ad, AX = some ad ∧ ∀ j u, ((x.code.map inC).flatten)[j]? = some u → (((wr.alloc (.cells #[.string x.name, .int .i64 x.params, .int .i64 x.regs, .slice AX x.code.length cX] 37)).alloc (.cells #[] 34))).cell? (ad.add j) = some u) := Lib.hid (by
          intro hg
          obtain ⟨gG, oG, hB, hG⟩ := HR.out.at hg
          exact ⟨_, hB, news_row (cl := inC) (k := 5) (fun _ => rfl) (by omega) in_cells (fun i hi => (hG i hi).below (below2 wr _ _))⟩)
        have size6 : Hid ((((wr.alloc (.cells #[.string x.name, .int .i64 x.params, .int .i64 x.regs, .slice AX x.code.length cX] 37)).alloc (.cells #[] 34))).heap.size = wr.heap.size + 2) := Lib.hid (by simp)
        go_wp2_with (first
          | (at_builtin; refine wpList_append_e _ rfl _ _ _ rfl (w.heap.size + 2) 34 iI _ 5 40 Tryd.underlying35 hiI hzI0 hzI1 hzI2 rfl (by omega) (wr.heap.size + 1) rfl own6.out AX x.code.length cX ((x.code.map inC).flatten) rfl (flat_len (cl := inC) (k := 5) (fun _ => rfl) _) news6.out (one_flat (cl := inC) in_one) (by unfold maxLen; omega) (by omega) (by rw [size6.out]; omega) (wr.heap.size + 2) size6.out ?_; intro g5 cap5 w5 hown5 hgrow5 hat5 hlt5; have H6 := Lib.hid (after6 hown5 hgrow5 hat5 rfl); obtain ⟨⟨zc0, zc1, zc2, zc3⟩, fc0, fc1, fc2, fc3⟩ := cells4 ((hgrow5.block wr.heap.size (by rw [size6.out]; omega) (by simp)).trans (heap2a wr (.cells #[.string x.name, .int .i64 x.params, .int .i64 x.regs, .slice AX x.code.length cX] 37) (.cells #[] 34))); obtain ⟨⟨zd0, zd1, zd2, zd3⟩, -⟩ := cells4 H6.out.1; obtain ⟨⟨ze0, ze1, ze2, ze3⟩, -⟩ := cells4 ((H6.out.2.1.block _ hobl).trans hJ.out.cg.box); have hs5 := hgrow5.size; rw [size6.out] at hs5)
          | (at_builtin; refine wpList_append_lies _ rfl _ _ _ rfl (w.heap.size + 2) 37 iF _ 4 56 Tryd.underlying22 hiF hzF0 hzF1 hzF2 rfl (by omega) (.slice Xa k cx) k ((ys.map fnC).flatten) rfl (World.ownsRow.alloc (own_keepN hJ.out.cg.x H6.out.2.1) (.cells #[.string x.name, .int .i64 x.params, .int .i64 x.regs, (.slice (some ⟨g5, 0, none⟩) x.code.length cap5)] 37)) ⟨w5.heap.size, 0, none⟩ 1 1 (fnC (x, (.slice (some ⟨g5, 0, none⟩) x.code.length cap5))) rfl rfl (World.news_of_block (new_set w5 wr.heap.size 3 (.slice (some ⟨g5, 0, none⟩) x.code.length cap5) (.cells #[.string x.name, .int .i64 x.params, .int .i64 x.regs, (.slice (some ⟨g5, 0, none⟩) x.code.length cap5)] 37))) (fn_one x g5 cap5 x.code.length) (by omega) (by unfold maxLen; omega) (by omega) (by simp; omega) (w5.heap.size + 1) (by simp) ?_; intro g2 cap2 w7 hown2 hgrow2 hat2 hlt2; have HBX7 := Lib.hid ((hgrow2.block _ (by simp; omega) (fun e => hJ.out.cg.xob e.symm)).trans (((Below.refl _ _).alloc (Nat.le_refl _) (.cells #[.string x.name, .int .i64 x.params, .int .i64 x.regs, (.slice (some ⟨g5, 0, none⟩) x.code.length cap5)] 37)).block _ (by simp; omega) |>.trans ((H6.out.2.1.block _ hobl).trans hJ.out.cg.box))); obtain ⟨⟨zg0, zg1, zg2, zg3⟩, fg0, fg1, fg2, fg3⟩ := cells4 HBX7.out))
        have HB5 := Lib.hid (H6.out.2.1.alloc H6.out.2.1.size (.cells #[.string x.name, .int .i64 x.params, .int .i64 x.regs, (.slice (some ⟨g5, 0, none⟩) x.code.length cap5)] 37))
        go_roundw
        case rel =>
          refine ⟨k + 1, ys ++ [(x, (.slice (some ⟨g5, 0, none⟩) x.code.length cap5))], some ⟨g2, 0, none⟩, cap2, codeRow (x, (.slice (some ⟨g5, 0, none⟩) x.code.length cap5)) :: R, by omega, by go_num, Lib.hid (J1.next hJ.out hlt HX.out HB5.out (World.ownsRow.alloc H6.out.2.2.1 _) (by omega) hown2 hgrow2 (hat2.imp id fun e => by rw [e]; simp)), Lib.hid ?_, Lib.hid ((cg_old (base := w.heap.size + 2) (w := w) (by omega) (by omega) HB5.out hgrow2 (fun j hj => own_ge hJ.out.cg.x hj) (by omega)).trans hrb.out)⟩
          refine B1.setC (B1.grownK (hbx.out.keep HB5.out) hgrow2 (by have := HB5.out.size; omega) (fun j hj => ?_)) (by omega)
          have := own_ge hJ.out.cg.x hj
          omega
        case measure => simp [intOf]; omega
      · obtain rfl : k = p.funcs.length := by omega
        have HJ2 := Lib.hid (J2.start hJ.out)
        go_wp2
        clear hJ z0 z1 z2 z3 fz0 fz1 fz2 fz3 y00 y01 y02 y03 hobl hlt
        go_loopw [6] (fun i wr => ∃ (j : Nat) (zs : List (List Int × Value)) (Ya : Option Addr) (cy : Nat) (R : List Rw), j ≤ p.layouts.length ∧ i = .int .i64 j ∧ Hid (J2 p (w.heap.size + 2) (w.heap.size + 1 + 1 + 1) (.slice (some ⟨g1, 0, none⟩) p.globals.length cap1) ys Xa cx j zs Ya cy R wr) ∧ Hid (B1 p A B D ca cb cd w wr) ∧ Hid (wr.heap[w.heap.size + 1]? = some (.cells #[.slice none 0 0, .slice none 0 0, .slice none 0 0, .int .i64 0] 26))) (fun i _ => p.layouts.length - (intOf i).toNat)
        case atStart => exact ⟨0, [], none, 0, _, Nat.zero_le _, rfl, HJ2, hbx, hrb⟩
        case round =>
          clear hbx hrb HYB hwr HJ2
          obtain ⟨j, zs, Ya, cy, R, hj, rfl, hJ, hbx, hrb⟩ := hrel
          obtain ⟨y00, y01, y02, y03, yb⟩ := hbx.out
          have HYB := Lib.hid yb
          have hwr := yb.size
          clear yb
          obtain ⟨⟨z0, z1, z2, z3⟩, fz0, fz1, fz2, fz3⟩ := cells4 hJ.out.cg.box
          have hobl := (Array.getElem?_eq_some_iff.1 hJ.out.cg.box).1
          have hyl := World.block_lt_of_cell? wr _ y00
          simp only at hyl
          by_cases hlt : j < p.layouts.length
          · obtain ⟨gx, ox, rfl, hA⟩ := HP.out.ls.at (by omega)
            have hx0 := hA j hlt
            have hgx := hx0.lt
            have hx := hx0.below HYB.out
            obtain ⟨x, hxe⟩ : ∃ x, p.layouts[j] = x := ⟨_, rfl⟩
            rw [hxe, Nat.mul_one] at hx
            obtain ⟨AX, cX, u0, _, mX, rX⟩ := hx.row
            have HX := Lib.hid hxe
            have HR := Lib.hid rX
            have hxc : x.length ≤ 1048576 := HZ.out.r x (hxe ▸ List.getElem_mem _)
            have kk0 : (0 : Int) ≤ (j : Int) := by omega
            have kk1 : (j : Int) < (p.layouts.length : Int) := by omega
            have KS2 : Hid (∀ V, Below (w.heap.size + 1) wr V → V.cell? ⟨w.heap.size, 2, none⟩ = some (.slice (some ⟨gx, ox, none⟩) p.layouts.length cd) ∧ V.cell? ⟨gx, ox + j, none⟩ = some (.slice AX x.length cX) ∧ Below (w.heap.size + 1) wr V) := Lib.hid fun V hV => ⟨(hV.cell (p := ⟨w.heap.size, 2, none⟩) (by simp)).trans y02, (hV.cell (p := ⟨gx, ox + j, none⟩) (by simp; omega)).trans u0, hV⟩
            clear hx0 hx hA hxe rX
            have HB0 : Hid (Below (w.heap.size + 1) wr wr.drew) := Lib.hid (Below.drew (Below.refl _ _))
            have HBa : Hid (Below (w.heap.size + 1) wr ((wr.alloc (.cells #[] 3)).drew)) := Lib.hid (Below.mono (Below.drew (below1 wr (.cells #[] 3))) (by omega))
            have own7 : Hid (((wr.alloc (.cells #[] 3)).drew).ownsRow (w.heap.size + 2) 3 1 (.slice (some ⟨wr.heap.size, 0, none⟩) 0 0) 0 []) := Lib.hid (own_e (heap_alloc_new wr (.cells #[] 3)) (by omega))
            have news7 : Hid (0 < x.length → ∃ ad, AX = some ad ∧ ∀ j u, (x.map (Value.int .i64))[j]? = some u → ((wr.alloc (.cells #[] 3)).drew).cell? (ad.add j) = some u) := Lib.hid (by
              intro hg
              obtain ⟨gG, oG, hB, hG⟩ := HR.out.at hg
              exact ⟨_, hB, news_ints (fun i hi => (hG i hi).below (Below.drew (below1 wr _)))⟩)
            have size7 : Hid (((wr.alloc (.cells #[] 3)).drew).heap.size = wr.heap.size + 1) := Lib.hid (by simp)
            have za : (wr.alloc (.cells #[] 3)).cell? ⟨(w.heap.size + 1 + 1 + 1), 2, none⟩ = some (.slice Ya j cy) := (cell_bel z2 (below1 wr (.cells #[] 3)))
            have ua := cell_bel u0 (below1 wr (.cells #[] 3))
            have ya := cell_bel y02 (below1 wr (.cells #[] 3))
            go_wp2_with fail
            go_region_law
              (first
                | (refine step_append_e _ (by rfl) _ _ _ (by rfl) (w.heap.size + 2) 3 i0 _ 1 8 Tryd.underlying39 hi0 hz00 hz01 hz02 rfl (by omega) wr.heap.size (by rfl) own7.out AX x.length cX (x.map (Value.int .i64)) (by rfl) (by simp) news7.out (ints_one _) (by unfold maxLen; omega) (by omega) (by rw [size7.out]; omega) (wr.heap.size + 1) size7.out ?_; intro g5 cap5 w5 hown5 hgrow5 hat5 hlt5; have HW5 := Lib.hid ((Below.drew (below1 wr (.cells #[] 3))).grown hgrow5 (by rw [size7.out]; omega) (fun k hk => by cases hk; omega)); have hs5 := hgrow5.size; rw [size7.out] at hs5; have HB52 := Lib.hid (HW5.out.mono (show w.heap.size + 1 ≤ wr.heap.size by omega)); have HW53 := Lib.hid (HW5.out.alloc HW5.out.size (.cells #[(.slice (some ⟨g5, 0, none⟩) x.length cap5)] 39)); have HB53 := Lib.hid (HW53.out.mono (show w.heap.size + 1 ≤ wr.heap.size by omega)); have zb := cell_bel z2 HW5.out; have zc := cell_bel z2 HW53.out)
                | (refine step_append_lies _ (by rfl) _ _ _ (by rfl) (w.heap.size + 2) 39 iL _ 1 24 Tryd.underlying24 hiL hzL0 hzL1 hzL2 rfl (by omega) (.slice Ya j cy) j ((zs.map lyC).flatten) (by rfl) (World.ownsRow.alloc (own_keepN hJ.out.cg.x HW5.out) (.cells #[(.slice (some ⟨g5, 0, none⟩) x.length cap5)] 39)) ⟨w5.heap.size, 0, none⟩ 1 1 (lyC (x, (.slice (some ⟨g5, 0, none⟩) x.length cap5))) (by rfl) (by rfl) (World.news_of_block (heap_alloc_new w5 (.cells #[(.slice (some ⟨g5, 0, none⟩) x.length cap5)] 39))) (ly_one g5 cap5 x.length x) (by omega) (by unfold maxLen; omega) (by omega) (by simp; omega) (w5.heap.size + 1) (by simp) ?_; intro g2 cap2 w7 hown2 hgrow2 hat2 hlt2; have HBX7 := Lib.hid ((hgrow2.block _ (by simp; omega) (fun e => hJ.out.cg.xob e.symm)).trans ((HW53.out.block _ hobl).trans hJ.out.cg.box)); obtain ⟨⟨zg0, zg1, zg2, zg3⟩, fg0, fg1, fg2, fg3⟩ := cells4 HBX7.out; have HB54 := Lib.hid (HB53.out.grown hgrow2 (by simp; omega) (fun k hk => by have := own_ge hJ.out.cg.x hk; omega)); have HB55 := Lib.hid (HB54.out.grown (grown_set w7 ((w.heap.size + 1 + 1 + 1)) 2 (.slice (some ⟨g2, 0, none⟩) (j + 1) cap2)) (by have := hgrow2.size; simp at this; omega) (fun k hk => by cases hk; omega))))
            all_goals
              go_wp2
              go_roundw
              case rel =>
                refine ⟨j + 1, zs ++ [(x, (.slice (some ⟨g5, 0, none⟩) x.length cap5))], some ⟨g2, 0, none⟩, cap2, layRow (x, (.slice (some ⟨g5, 0, none⟩) x.length cap5)) :: R, by omega, by go_num, Lib.hid (J2.next hJ.out hlt HX.out HW53.out (World.ownsRow.alloc hown5 _) (by omega) hown2 hgrow2 (hat2.imp id fun e => by rw [e]; simp)), Lib.hid ?_, Lib.hid ((cg_old (base := w.heap.size + 2) (w := w) (by omega) (by omega) HW53.out hgrow2 (fun j hj => own_ge hJ.out.cg.x hj) (by omega)).trans hrb.out)⟩
                refine B1.setC (B1.grownK (hbx.out.keep HW53.out) hgrow2 (by have := HW53.out.size; omega) (fun j hj => ?_)) (by omega)
                have := own_ge hJ.out.cg.x hj
                omega
              case measure => simp [intOf]; omega
          · obtain rfl : j = p.layouts.length := by omega
            obtain ⟨⟨zr0, zr1, zr2, zr3⟩, fr0, fr1, fr2, fr3⟩ := cells4 hrb.out
            go_wp2
            try simp only [Exit.inBlock, Exit.then]
            refine bodyPost_ret (results_cell_row rfl _ _ (w.heap.size + 1) 26 _ (0, 0) _ rfl (blk4 hrb.out) Tryd.underlying26 rfl infoPg) rfl ?_
            exact ⟨Xa, _, Ya, cx, cap1, cy, _, _, rfl, J2.mu HP.out (J2.low4 hJ.out (by omega) (by omega)), bel_set4 HYB.out HYB.out.size (by omega)⟩

  · go_wp2
    go_loopw [4] (fun i wr => ∃ (k : Nat) (ys : List (Fc × Value)) (Xa : Option Addr) (cx : Nat) (R : List Rw), k ≤ p.funcs.length ∧ i = .int .i64 k ∧ Hid (J1 p (w.heap.size + 2) (w.heap.size + 1 + 1) (.slice (some ⟨g1, 0, none⟩) p.globals.length cap1) k ys Xa cx R wr) ∧ Hid (B1 p A B D ca cb cd w wr) ∧ Hid (wr.heap[w.heap.size + 1]? = some (.cells #[.slice none 0 0, .slice none 0 0, .slice none 0 0, .int .i64 0] 26))) (fun i _ => p.funcs.length - (intOf i).toNat)
    case atStart => exact ⟨0, [], none, 0, _, Nat.zero_le _, rfl, Lib.hid ⟨rfl, HCG.out, by simp, List.mem_singleton_self _, by simp, List.Pairwise.nil⟩, Lib.hid (by unfold B1; with_reducible assumption), Lib.hid (by first | (with_reducible exact rb_A HR4.out) | (with_reducible exact rb_S HR4.out (by omega)))⟩
    case round =>
      obtain ⟨k, ys, Xa, cx, R, hk, rfl, hJ, hbx, hrb⟩ := hrel
      obtain ⟨y00, y01, y02, y03, yb⟩ := hbx.out
      have HYB := Lib.hid yb
      have hwr := yb.size
      clear yb
      obtain ⟨⟨z0, z1, z2, z3⟩, fz0, fz1, fz2, fz3⟩ := cells4 hJ.out.cg.box
      have hobl := (Array.getElem?_eq_some_iff.1 hJ.out.cg.box).1
      by_cases hlt : k < p.funcs.length
      · obtain ⟨gx, ox, rfl, hA⟩ := HP.out.fs.at (by omega)
        have hx := (hA k hlt).below HYB.out
        obtain ⟨x, hxe⟩ : ∃ x, p.funcs[k] = x := ⟨_, rfl⟩
        rw [hxe] at hx
        have u0 := hx.c0
        have u1 := hx.c1
        have u2 := hx.c2
        obtain ⟨AX, cX, u3, _, mX, rX⟩ := hx.row
        have HX := Lib.hid hxe
        have HR := Lib.hid rX
        have hxc : x.code.length ≤ 1048576 := HZ.out.c x (hxe ▸ List.getElem_mem _)
        have kk0 : (0 : Int) ≤ (k : Int) := by omega
        have kk1 : (k : Int) < (p.funcs.length : Int) := by omega
        clear hx hA hxe rX
        have own6 : Hid ((((wr.alloc (.cells #[.string x.name, .int .i64 x.params, .int .i64 x.regs, .slice AX x.code.length cX] 37)).alloc (.cells #[] 34))).ownsRow (w.heap.size + 2) 34 5 (.slice (some ⟨wr.heap.size + 1, 0, none⟩) 0 0) 0 []) := Lib.hid (own_e (heap2 wr (.cells #[.string x.name, .int .i64 x.params, .int .i64 x.regs, .slice AX x.code.length cX] 37) (.cells #[] 34)) (by omega))
        have news6 : Hid (0 < x.code.length → ∃ ad, AX = some ad ∧ ∀ j u, ((x.code.map inC).flatten)[j]? = some u → (((wr.alloc (.cells #[.string x.name, .int .i64 x.params, .int .i64 x.regs, .slice AX x.code.length cX] 37)).alloc (.cells #[] 34))).cell? (ad.add j) = some u) := Lib.hid (by
          intro hg
          obtain ⟨gG, oG, hB, hG⟩ := HR.out.at hg
          exact ⟨_, hB, news_row (cl := inC) (k := 5) (fun _ => rfl) (by omega) in_cells (fun i hi => (hG i hi).below (below2 wr _ _))⟩)
        have size6 : Hid ((((wr.alloc (.cells #[.string x.name, .int .i64 x.params, .int .i64 x.regs, .slice AX x.code.length cX] 37)).alloc (.cells #[] 34))).heap.size = wr.heap.size + 2) := Lib.hid (by simp)
        go_wp2_with (first
          | (at_builtin; refine wpList_append_e _ rfl _ _ _ rfl (w.heap.size + 2) 34 iI _ 5 40 Tryd.underlying35 hiI hzI0 hzI1 hzI2 rfl (by omega) (wr.heap.size + 1) rfl own6.out AX x.code.length cX ((x.code.map inC).flatten) rfl (flat_len (cl := inC) (k := 5) (fun _ => rfl) _) news6.out (one_flat (cl := inC) in_one) (by unfold maxLen; omega) (by omega) (by rw [size6.out]; omega) (wr.heap.size + 2) size6.out ?_; intro g5 cap5 w5 hown5 hgrow5 hat5 hlt5; have H6 := Lib.hid (after6 hown5 hgrow5 hat5 rfl); obtain ⟨⟨zc0, zc1, zc2, zc3⟩, fc0, fc1, fc2, fc3⟩ := cells4 ((hgrow5.block wr.heap.size (by rw [size6.out]; omega) (by simp)).trans (heap2a wr (.cells #[.string x.name, .int .i64 x.params, .int .i64 x.regs, .slice AX x.code.length cX] 37) (.cells #[] 34))); obtain ⟨⟨zd0, zd1, zd2, zd3⟩, -⟩ := cells4 H6.out.1; obtain ⟨⟨ze0, ze1, ze2, ze3⟩, -⟩ := cells4 ((H6.out.2.1.block _ hobl).trans hJ.out.cg.box); have hs5 := hgrow5.size; rw [size6.out] at hs5)
          | (at_builtin; refine wpList_append_lies _ rfl _ _ _ rfl (w.heap.size + 2) 37 iF _ 4 56 Tryd.underlying22 hiF hzF0 hzF1 hzF2 rfl (by omega) (.slice Xa k cx) k ((ys.map fnC).flatten) rfl (World.ownsRow.alloc (own_keepN hJ.out.cg.x H6.out.2.1) (.cells #[.string x.name, .int .i64 x.params, .int .i64 x.regs, (.slice (some ⟨g5, 0, none⟩) x.code.length cap5)] 37)) ⟨w5.heap.size, 0, none⟩ 1 1 (fnC (x, (.slice (some ⟨g5, 0, none⟩) x.code.length cap5))) rfl rfl (World.news_of_block (new_set w5 wr.heap.size 3 (.slice (some ⟨g5, 0, none⟩) x.code.length cap5) (.cells #[.string x.name, .int .i64 x.params, .int .i64 x.regs, (.slice (some ⟨g5, 0, none⟩) x.code.length cap5)] 37))) (fn_one x g5 cap5 x.code.length) (by omega) (by unfold maxLen; omega) (by omega) (by simp; omega) (w5.heap.size + 1) (by simp) ?_; intro g2 cap2 w7 hown2 hgrow2 hat2 hlt2; have HBX7 := Lib.hid ((hgrow2.block _ (by simp; omega) (fun e => hJ.out.cg.xob e.symm)).trans (((Below.refl _ _).alloc (Nat.le_refl _) (.cells #[.string x.name, .int .i64 x.params, .int .i64 x.regs, (.slice (some ⟨g5, 0, none⟩) x.code.length cap5)] 37)).block _ (by simp; omega) |>.trans ((H6.out.2.1.block _ hobl).trans hJ.out.cg.box))); obtain ⟨⟨zg0, zg1, zg2, zg3⟩, fg0, fg1, fg2, fg3⟩ := cells4 HBX7.out))
        have HB5 := Lib.hid (H6.out.2.1.alloc H6.out.2.1.size (.cells #[.string x.name, .int .i64 x.params, .int .i64 x.regs, (.slice (some ⟨g5, 0, none⟩) x.code.length cap5)] 37))
        go_roundw
        case rel =>
          refine ⟨k + 1, ys ++ [(x, (.slice (some ⟨g5, 0, none⟩) x.code.length cap5))], some ⟨g2, 0, none⟩, cap2, codeRow (x, (.slice (some ⟨g5, 0, none⟩) x.code.length cap5)) :: R, by omega, by go_num, Lib.hid (J1.next hJ.out hlt HX.out HB5.out (World.ownsRow.alloc H6.out.2.2.1 _) (by omega) hown2 hgrow2 (hat2.imp id fun e => by rw [e]; simp)), Lib.hid ?_, Lib.hid ((cg_old (base := w.heap.size + 2) (w := w) (by omega) (by omega) HB5.out hgrow2 (fun j hj => own_ge hJ.out.cg.x hj) (by omega)).trans hrb.out)⟩
          refine B1.setC (B1.grownK (hbx.out.keep HB5.out) hgrow2 (by have := HB5.out.size; omega) (fun j hj => ?_)) (by omega)
          have := own_ge hJ.out.cg.x hj
          omega
        case measure => simp [intOf]; omega
      · obtain rfl : k = p.funcs.length := by omega
        have HJ2 := Lib.hid (J2.start hJ.out)
        go_wp2
        clear hJ z0 z1 z2 z3 fz0 fz1 fz2 fz3 y00 y01 y02 y03 hobl hlt
        go_loopw [6] (fun i wr => ∃ (j : Nat) (zs : List (List Int × Value)) (Ya : Option Addr) (cy : Nat) (R : List Rw), j ≤ p.layouts.length ∧ i = .int .i64 j ∧ Hid (J2 p (w.heap.size + 2) (w.heap.size + 1 + 1) (.slice (some ⟨g1, 0, none⟩) p.globals.length cap1) ys Xa cx j zs Ya cy R wr) ∧ Hid (B1 p A B D ca cb cd w wr) ∧ Hid (wr.heap[w.heap.size + 1]? = some (.cells #[.slice none 0 0, .slice none 0 0, .slice none 0 0, .int .i64 0] 26))) (fun i _ => p.layouts.length - (intOf i).toNat)
        case atStart => exact ⟨0, [], none, 0, _, Nat.zero_le _, rfl, HJ2, hbx, hrb⟩
        case round =>
          clear hbx hrb HYB hwr HJ2
          obtain ⟨j, zs, Ya, cy, R, hj, rfl, hJ, hbx, hrb⟩ := hrel
          obtain ⟨y00, y01, y02, y03, yb⟩ := hbx.out
          have HYB := Lib.hid yb
          have hwr := yb.size
          clear yb
          obtain ⟨⟨z0, z1, z2, z3⟩, fz0, fz1, fz2, fz3⟩ := cells4 hJ.out.cg.box
          have hobl := (Array.getElem?_eq_some_iff.1 hJ.out.cg.box).1
          have hyl := World.block_lt_of_cell? wr _ y00
          simp only at hyl
          by_cases hlt : j < p.layouts.length
          · obtain ⟨gx, ox, rfl, hA⟩ := HP.out.ls.at (by omega)
            have hx0 := hA j hlt
            have hgx := hx0.lt
            have hx := hx0.below HYB.out
            obtain ⟨x, hxe⟩ : ∃ x, p.layouts[j] = x := ⟨_, rfl⟩
            rw [hxe, Nat.mul_one] at hx
            obtain ⟨AX, cX, u0, _, mX, rX⟩ := hx.row
            have HX := Lib.hid hxe
            have HR := Lib.hid rX
            have hxc : x.length ≤ 1048576 := HZ.out.r x (hxe ▸ List.getElem_mem _)
            have kk0 : (0 : Int) ≤ (j : Int) := by omega
            have kk1 : (j : Int) < (p.layouts.length : Int) := by omega
            have KS2 : Hid (∀ V, Below (w.heap.size + 1) wr V → V.cell? ⟨w.heap.size, 2, none⟩ = some (.slice (some ⟨gx, ox, none⟩) p.layouts.length cd) ∧ V.cell? ⟨gx, ox + j, none⟩ = some (.slice AX x.length cX) ∧ Below (w.heap.size + 1) wr V) := Lib.hid fun V hV => ⟨(hV.cell (p := ⟨w.heap.size, 2, none⟩) (by simp)).trans y02, (hV.cell (p := ⟨gx, ox + j, none⟩) (by simp; omega)).trans u0, hV⟩
            clear hx0 hx hA hxe rX
            have HB0 : Hid (Below (w.heap.size + 1) wr wr.drew) := Lib.hid (Below.drew (Below.refl _ _))
            have HBa : Hid (Below (w.heap.size + 1) wr ((wr.alloc (.cells #[] 3)).drew)) := Lib.hid (Below.mono (Below.drew (below1 wr (.cells #[] 3))) (by omega))
            have own7 : Hid (((wr.alloc (.cells #[] 3)).drew).ownsRow (w.heap.size + 2) 3 1 (.slice (some ⟨wr.heap.size, 0, none⟩) 0 0) 0 []) := Lib.hid (own_e (heap_alloc_new wr (.cells #[] 3)) (by omega))
            have news7 : Hid (0 < x.length → ∃ ad, AX = some ad ∧ ∀ j u, (x.map (Value.int .i64))[j]? = some u → ((wr.alloc (.cells #[] 3)).drew).cell? (ad.add j) = some u) := Lib.hid (by
              intro hg
              obtain ⟨gG, oG, hB, hG⟩ := HR.out.at hg
              exact ⟨_, hB, news_ints (fun i hi => (hG i hi).below (Below.drew (below1 wr _)))⟩)
            have size7 : Hid (((wr.alloc (.cells #[] 3)).drew).heap.size = wr.heap.size + 1) := Lib.hid (by simp)
            have za : (wr.alloc (.cells #[] 3)).cell? ⟨(w.heap.size + 1 + 1), 2, none⟩ = some (.slice Ya j cy) := (cell_bel z2 (below1 wr (.cells #[] 3)))
            have ua := cell_bel u0 (below1 wr (.cells #[] 3))
            have ya := cell_bel y02 (below1 wr (.cells #[] 3))
            go_wp2_with fail
            go_region_law
              (first
                | (refine step_append_e _ (by rfl) _ _ _ (by rfl) (w.heap.size + 2) 3 i0 _ 1 8 Tryd.underlying39 hi0 hz00 hz01 hz02 rfl (by omega) wr.heap.size (by rfl) own7.out AX x.length cX (x.map (Value.int .i64)) (by rfl) (by simp) news7.out (ints_one _) (by unfold maxLen; omega) (by omega) (by rw [size7.out]; omega) (wr.heap.size + 1) size7.out ?_; intro g5 cap5 w5 hown5 hgrow5 hat5 hlt5; have HW5 := Lib.hid ((Below.drew (below1 wr (.cells #[] 3))).grown hgrow5 (by rw [size7.out]; omega) (fun k hk => by cases hk; omega)); have hs5 := hgrow5.size; rw [size7.out] at hs5; have HB52 := Lib.hid (HW5.out.mono (show w.heap.size + 1 ≤ wr.heap.size by omega)); have HW53 := Lib.hid (HW5.out.alloc HW5.out.size (.cells #[(.slice (some ⟨g5, 0, none⟩) x.length cap5)] 39)); have HB53 := Lib.hid (HW53.out.mono (show w.heap.size + 1 ≤ wr.heap.size by omega)); have zb := cell_bel z2 HW5.out; have zc := cell_bel z2 HW53.out)
                | (refine step_append_lies _ (by rfl) _ _ _ (by rfl) (w.heap.size + 2) 39 iL _ 1 24 Tryd.underlying24 hiL hzL0 hzL1 hzL2 rfl (by omega) (.slice Ya j cy) j ((zs.map lyC).flatten) (by rfl) (World.ownsRow.alloc (own_keepN hJ.out.cg.x HW5.out) (.cells #[(.slice (some ⟨g5, 0, none⟩) x.length cap5)] 39)) ⟨w5.heap.size, 0, none⟩ 1 1 (lyC (x, (.slice (some ⟨g5, 0, none⟩) x.length cap5))) (by rfl) (by rfl) (World.news_of_block (heap_alloc_new w5 (.cells #[(.slice (some ⟨g5, 0, none⟩) x.length cap5)] 39))) (ly_one g5 cap5 x.length x) (by omega) (by unfold maxLen; omega) (by omega) (by simp; omega) (w5.heap.size + 1) (by simp) ?_; intro g2 cap2 w7 hown2 hgrow2 hat2 hlt2; have HBX7 := Lib.hid ((hgrow2.block _ (by simp; omega) (fun e => hJ.out.cg.xob e.symm)).trans ((HW53.out.block _ hobl).trans hJ.out.cg.box)); obtain ⟨⟨zg0, zg1, zg2, zg3⟩, fg0, fg1, fg2, fg3⟩ := cells4 HBX7.out; have HB54 := Lib.hid (HB53.out.grown hgrow2 (by simp; omega) (fun k hk => by have := own_ge hJ.out.cg.x hk; omega)); have HB55 := Lib.hid (HB54.out.grown (grown_set w7 ((w.heap.size + 1 + 1)) 2 (.slice (some ⟨g2, 0, none⟩) (j + 1) cap2)) (by have := hgrow2.size; simp at this; omega) (fun k hk => by cases hk; omega))))
            all_goals
              go_wp2
              go_roundw
              case rel =>
                refine ⟨j + 1, zs ++ [(x, (.slice (some ⟨g5, 0, none⟩) x.length cap5))], some ⟨g2, 0, none⟩, cap2, layRow (x, (.slice (some ⟨g5, 0, none⟩) x.length cap5)) :: R, by omega, by go_num, Lib.hid (J2.next hJ.out hlt HX.out HW53.out (World.ownsRow.alloc hown5 _) (by omega) hown2 hgrow2 (hat2.imp id fun e => by rw [e]; simp)), Lib.hid ?_, Lib.hid ((cg_old (base := w.heap.size + 2) (w := w) (by omega) (by omega) HW53.out hgrow2 (fun j hj => own_ge hJ.out.cg.x hj) (by omega)).trans hrb.out)⟩
                refine B1.setC (B1.grownK (hbx.out.keep HW53.out) hgrow2 (by have := HW53.out.size; omega) (fun j hj => ?_)) (by omega)
                have := own_ge hJ.out.cg.x hj
                omega
              case measure => simp [intOf]; omega
          · obtain rfl : j = p.layouts.length := by omega
            obtain ⟨⟨zr0, zr1, zr2, zr3⟩, fr0, fr1, fr2, fr3⟩ := cells4 hrb.out
            go_wp2
            try simp only [Exit.inBlock, Exit.then]
            refine bodyPost_ret (results_cell_row rfl _ _ (w.heap.size + 1) 26 _ (0, 0) _ rfl (blk4 hrb.out) Tryd.underlying26 rfl infoPg) rfl ?_
            exact ⟨Xa, _, Ya, cx, cap1, cy, _, _, rfl, J2.mu HP.out (J2.low4 hJ.out (by omega) (by omega)), bel_set4 HYB.out HYB.out.size (by omega)⟩

end Go.Proofs.YtekfhgldebhigaaDoor

namespace Go.Proofs.YtekfhgldebhigaaDoor
open Go.RowKit C
def midF (k : Nat) (f : Fc) : Fc := { f with code := (f.code.take k).map stripI ++ f.code.drop k }
def partP (p : Pg) (i k : Nat) : Pg := { p with funcs := p.funcs.mapIdx fun j f => if j < i then stripF f else if j = i then midF k f else f }
theorem midF_zero (f : Fc) : midF 0 f = f := by simp [midF]
theorem midF_all (f : Fc) : midF f.code.length f = stripF f := by simp [midF, stripF]
theorem midF_step {f : Fc} {k : Nat} (hk : k < f.code.length) : ({ midF k f with code := (midF k f).code.modify k stripI } : Fc) = midF (k + 1) f := by
  have key : ((f.code.take k).map stripI ++ f.code.drop k).modify k stripI = (f.code.take (k + 1)).map stripI ++ f.code.drop (k + 1) := ?_
  · unfold midF; simp only [key]
  apply List.ext_getElem?
  intro n
  simp only [List.getElem?_modify]
  have hl : ((f.code.take k).map stripI).length = k := by simp; omega
  have hl2 : ((f.code.take (k + 1)).map stripI).length = k + 1 := by simp; omega
  by_cases h1 : n < k
  · rw [List.getElem?_append_left (by omega), List.getElem?_append_left (by omega)]
    simp [List.getElem?_take, h1, show n < k + 1 by omega, show k ≠ n by omega]
  · by_cases h2 : n = k
    · subst h2
      rw [List.getElem?_append_right (by omega), hl, List.getElem?_append_left (by omega)]
      simp [List.getElem?_take, hk]
    · rw [List.getElem?_append_right (by omega), hl, List.getElem?_append_right (by omega), hl2]
      simp only [List.getElem?_drop, show k ≠ n from fun e => h2 e.symm, if_false]
      rw [show k + 1 + (n - (k + 1)) = k + (n - k) by omega]
      simp
theorem part_len (p : Pg) (i k : Nat) : (partP p i k).funcs.length = p.funcs.length := by simp [partP]
theorem part_at {p : Pg} {i k j : Nat} (hj : j < p.funcs.length) : (partP p i k).funcs[j]'(by rw [part_len]; exact hj) = if j < i then stripF p.funcs[j] else if j = i then midF k p.funcs[j] else p.funcs[j] := by simp [partP]
theorem part_name {p : Pg} {i k j : Nat} (hj : j < p.funcs.length) : ((partP p i k).funcs[j]'(by rw [part_len]; exact hj)).name = p.funcs[j].name ∧ ((partP p i k).funcs[j]'(by rw [part_len]; exact hj)).code.length = p.funcs[j].code.length := by
  rw [part_at hj]
  split
  · exact ⟨rfl, by simp [stripF]⟩
  · split
    · exact ⟨rfl, by simp [midF]; omega⟩
    · exact ⟨rfl, rfl⟩
theorem part_ext {p q : Pg} (h : p.funcs = q.funcs) (h1 : p.globals = q.globals) (h2 : p.layouts = q.layouts) (h3 : p.main = q.main) : p = q := by cases p; cases q; simp_all
theorem part_step {p : Pg} {i k : Nat} (hi : i < p.funcs.length) (hk : k < p.funcs[i].code.length) : stripAt (partP p i k) i k = partP p i (k + 1) := by
  refine part_ext ?_ rfl rfl rfl
  apply List.ext_getElem (by simp [stripAt, partP])
  intro n h1 h2
  have hn : n < p.funcs.length := by rw [part_len] at h2; exact h2
  rw [part_at hn]
  have e : (stripAt (partP p i k) i k).funcs[n]'h1 = if i = n then { (partP p i k).funcs[n]'(by rw [part_len]; exact hn) with code := ((partP p i k).funcs[n]'(by rw [part_len]; exact hn)).code.modify k stripI } else (partP p i k).funcs[n]'(by rw [part_len]; exact hn) := by
    simp [stripAt, List.getElem_modify]
  rw [e, part_at hn]
  by_cases hin : i = n
  · subst hin
    rw [if_pos rfl, if_neg (Nat.lt_irrefl _), if_pos rfl, if_neg (Nat.lt_irrefl _), if_pos rfl]
    exact midF_step hk
  · have hin2 : ¬ n = i := fun e => hin e.symm
    rw [if_neg hin, if_neg hin2, if_neg hin2]
theorem part_next {p : Pg} {i : Nat} (hi : i < p.funcs.length) : partP p i p.funcs[i].code.length = partP p (i + 1) 0 := by
  refine part_ext ?_ rfl rfl rfl
  apply List.ext_getElem (by simp [partP])
  intro n h1 h2
  have hn : n < p.funcs.length := by rw [part_len] at h2; exact h2
  rw [part_at hn, part_at hn]
  by_cases a : n < i
  · rw [if_pos a, if_pos (by omega)]
  · by_cases b : n = i
    · subst b
      rw [if_neg a, if_pos rfl, if_pos (by omega), midF_all]
    · rw [if_neg a, if_neg b, if_neg (by omega)]
      split
      · rw [midF_zero]
      · rfl
theorem part_zero (p : Pg) : partP p 0 0 = p := by
  refine part_ext ?_ rfl rfl rfl
  apply List.ext_getElem (by simp [partP])
  intro n h1 h2
  rw [part_at h2, if_neg (by omega)]
  split
  · rw [midF_zero]
  · rfl
theorem part_end (p : Pg) : { partP p p.funcs.length 0 with main := 0 } = plainP p := by
  refine part_ext ?_ rfl rfl rfl
  show (partP p p.funcs.length 0).funcs = p.funcs.map stripF
  apply List.ext_getElem (by simp [partP])
  intro n h1 h2
  have hn : n < p.funcs.length := by simpa using h2
  rw [part_at hn, if_pos hn, List.getElem_map]
/-! ### the names -/
def glN (g : Gl) : Bs := g.name.data.toList
def fnN (f : Fc) : Bs := f.name.data.toList
def namesT (p : Pg) : Bs := p.globals.flatMap glN ++ p.funcs.flatMap fnN
def goodB (c : UInt8) : Bool := !(c.toNat == 32) && !(c.toNat == 10)
def namesB (p : Pg) : Bool := (namesT p).all goodB
theorem good_iff (l : Bs) : l.all goodB = true ↔ (32 : UInt8) ∉ l ∧ (10 : UInt8) ∉ l := by
  rw [List.all_eq_true]
  constructor
  · intro h
    refine ⟨fun hm => ?_, fun hm => ?_⟩
    · exact absurd (h _ hm) (by decide)
    · exact absurd (h _ hm) (by decide)
  · intro ⟨h1, h2⟩ c hc
    unfold goodB
    have a : c.toNat ≠ 32 := fun e => h1 (by have : c = 32 := UInt8.toNat_inj.1 e; rw [← this]; exact hc)
    have b : c.toNat ≠ 10 := fun e => h2 (by have : c = 10 := UInt8.toNat_inj.1 e; rw [← this]; exact hc)
    simp [a, b]
theorem names_iff (p : Pg) : namesB p = true ↔ NamesOk p := by
  unfold namesB
  rw [good_iff]
  unfold namesT glN fnN
  simp only [List.mem_append, List.mem_flatMap, not_or, not_exists, not_and]
  constructor
  · intro ⟨⟨a1, a2⟩, b1, b2⟩
    exact ⟨fun g hg => ⟨a1 g hg, b1 g hg⟩, fun f hf => ⟨a2 f hf, b2 f hf⟩⟩
  · intro ⟨hg, hf⟩
    exact ⟨⟨fun g h => (hg g h).1, fun f h => (hf f h).1⟩, fun g h => (hg g h).2, fun f h => (hf f h).2⟩
/-! ### the worlds -/
structure Pw (p : Pg) (n m : Nat) (A B D : Option Addr) (ca cb cd : Nat) (zs : List (List Int × Value)) (i k : Nat) (w W : World) : Prop where
  mu : ∃ ys, MuD (partP p i k) (n + 4) A B D ca cb cd ys zs W
  box : W.heap[m]? = some (.cells #[.slice A p.funcs.length ca, .slice B p.globals.length cb, .slice D p.layouts.length cd, .int .i64 0] 26)
  res : W.heap[n + 1]? = some (.cells #[.slice none 0 0, .slice none 0 0, .slice none 0 0, .int .i64 0] 26)
  bel : Below n w W
  hw : w.heap.size = n
  lt : n + 1 < m
theorem own_not {V : World} {base g n c m : Nat} {xs : List Value} {cs : Array Value} {z : Nat × Nat} (h : V.ownsRow base 34 5 (.slice (some ⟨g, 0, none⟩) n c) n xs) (hm : V.heap[m]? = some (.cells cs 26 z)) : m ≠ g := by
  intro e
  subst e
  rcases h.2 with ⟨h', _⟩ | ⟨g', cap', cur, h', _, hg, _⟩
  · cases h'
  · cases h'
    rw [hm] at hg
    injection hg with hg
    injection hg with _ ht _
    exact absurd ht (by decide)
/-- What one reads of the functions, and what is set. -/
theorem Pw.fn {p : Pg} {n m : Nat} {A B D : Option Addr} {ca cb cd : Nat} {zs : List (List Int × Value)} {i k : Nat} {w W : World} (h : Pw p n m A B D ca cb cd zs i k w W) (hi : i < p.funcs.length) :
    ∃ g, A = some ⟨g, 0, none⟩ ∧ W.cell? ⟨g, i * 4, none⟩ = some (.string p.funcs[i].name) ∧ ∃ A' c', W.cell? ⟨g, i * 4 + 3, none⟩ = some (.slice A' p.funcs[i].code.length c') ∧ p.funcs[i].code.length ≤ c' := by
  obtain ⟨ys, hy⟩ := h.mu
  obtain ⟨hl1, hl2⟩ := part_name (p := p) (i := i) (k := k) hi
  obtain ⟨g, hA, hcap, hlt⟩ := own_addr hy.fs (by rw [part_len]; omega)
  obtain ⟨gq, oq, eq, hq⟩ := hy.pg.fs.at (by rw [part_len]; omega)
  rw [hA] at eq
  have eq2 := Option.some.inj eq
  have eq3 : g = gq ∧ 0 = oq := by injection eq2 with a b c; exact ⟨a, b⟩
  obtain ⟨rfl, rfl⟩ := eq3
  have hold := hq i (by rw [part_len]; exact hi)
  rw [Nat.zero_add] at hold
  obtain ⟨A', c', h3, hc1, hm, _⟩ := hold.row
  rw [hl2] at h3 hc1
  have h0 := hold.c0
  rw [hl1] at h0
  exact ⟨g, hA, h0, A', c', h3, hc1⟩
theorem Pw.step {p : Pg} {n m : Nat} {A B D : Option Addr} {ca cb cd : Nat} {zs : List (List Int × Value)} {i k : Nat} {w W : World} (h : Pw p n m A B D ca cb cd zs i k w W) (hi : i < p.funcs.length) (hk : k < p.funcs[i].code.length) :
    ∃ g g5 c5 at', A = some ⟨g, 0, none⟩ ∧ W.cell? ⟨g, i * 4 + 3, none⟩ = some (.slice (some ⟨g5, 0, none⟩) p.funcs[i].code.length c5) ∧ W.cell? ⟨g5, k * 5 + 4, none⟩ = some (.int .i64 at') ∧ W.frozen? ⟨g5, k * 5 + 4, none⟩ = false ∧ p.funcs[i].code.length ≤ c5 ∧
      Pw p n m A B D ca cb cd zs i (k + 1) w (W.setCell ⟨g5, k * 5 + 4, none⟩ (.int .i64 0)) := by
  obtain ⟨ys, hy⟩ := h.mu
  obtain ⟨hl1, hl2⟩ := part_name (p := p) (i := i) (k := k) hi
  obtain ⟨g, g5, c5, hA, hc3, hb5, hl5, _, hc4, hf4, hcap, ys', hys⟩ := hy.set (i := i) (k := k) (by rw [part_len]; exact hi) (by rw [hl2]; exact hk)
  rw [hl2] at hc3 hcap
  rw [part_step hi hk] at hys
  have hown : ∃ c xs n', W.ownsRow (n + 4) 34 5 (.slice (some ⟨g5, 0, none⟩) n' c) n' xs := by
    obtain ⟨e1, e2⟩ := at_of_map hy.yl
    have hj : i < ys.length := by rw [e1, part_len]; exact hi
    have hcr := hy.cs _ (List.getElem_mem hj)
    obtain ⟨g', c', e3⟩ := hy.sl _ (List.getElem_mem hj)
    have hh := own_cells (cl := fnC) (k := 4) (fun _ => rfl) (l := ys) (cap := ca) (g := g) (by rw [e1, ← hA]; exact hy.fs) i hj 3 (by omega)
    rw [hc3] at hh
    have hh2 : Value.slice (some ⟨g5, 0, none⟩) p.funcs[i].code.length c5 = ys[i].2 := Option.some.inj hh
    unfold codeRow Rw.own at hcr
    simp only [e3] at hcr hh2
    injection hh2 with a1 a2 a3
    rw [← a1] at hcr
    exact ⟨_, _, _, hcr⟩
  obtain ⟨c, xs, n', hown⟩ := hown
  have n1 := own_not hown h.box
  have n2 := own_not hown h.res
  have gr := grown_set W g5 (k * 5 + 4) (.int .i64 0)
  have lb := (Array.getElem?_eq_some_iff.1 h.box).1
  have lr := (Array.getElem?_eq_some_iff.1 h.res).1
  refine ⟨g, g5, c5, _, hA, hc3, hc4, hf4, hcap, ⟨ys', hys⟩, (gr.block m lb (by intro e; cases e; exact n1 rfl)).trans h.box, (gr.block (n + 1) lr (by intro e; cases e; exact n2 rfl)).trans h.res, h.bel.grown gr (by have := h.bel.size; have := h.hw; omega) (fun q hq => by cases hq; omega), h.hw, h.lt⟩
theorem Pw.turn {p : Pg} {n m : Nat} {A B D : Option Addr} {ca cb cd : Nat} {zs : List (List Int × Value)} {i : Nat} {w W : World} (hi : i < p.funcs.length) (h : Pw p n m A B D ca cb cd zs i p.funcs[i].code.length w W) : Pw p n m A B D ca cb cd zs (i + 1) 0 w W := by
  obtain ⟨hm, h2, h3, h4, h5, h6⟩ := h
  rw [part_next hi] at hm
  exact ⟨hm, h2, h3, h4, h5, h6⟩
theorem Pw.pg {p : Pg} {n m : Nat} {A B D : Option Addr} {ca cb cd : Nat} {zs : List (List Int × Value)} {w W : World} (h : Pw p n m A B D ca cb cd zs p.funcs.length 0 w W) : PgAt W (plainP p) A B D ca cb cd := by
  obtain ⟨ys, hy⟩ := h.mu
  have hp := hy.pg
  rw [← part_end p]
  exact ⟨hp.fs, hp.gs, hp.ls, by show i64 0; unfold i64; omega, hp.ka, hp.kb, hp.kd⟩
theorem Pw.g1 {p : Pg} {n m : Nat} {A B D : Option Addr} {ca cb cd : Nat} {zs : List (List Int × Value)} {i k : Nat} {w W : World} (h : Pw p n m A B D ca cb cd zs i k w W) {j : Nat} (hj : j < p.globals.length) :
    ∃ g1, B = some ⟨g1, 0, none⟩ ∧ W.cell? ⟨g1, j * 2, none⟩ = some (.string p.globals[j].name) := by
  obtain ⟨ys, hy⟩ := h.mu
  obtain ⟨g1, hB⟩ := hy.bs
  obtain ⟨gq, oq, eq, hq⟩ := hy.pg.gs.at (by show 0 < p.globals.length; omega)
  rw [hB] at eq
  have eq2 := Option.some.inj eq
  have eq3 : g1 = gq ∧ 0 = oq := by injection eq2 with a b c; exact ⟨a, b⟩
  obtain ⟨rfl, rfl⟩ := eq3
  have := (hq j hj).c0
  rw [Nat.zero_add] at this
  exact ⟨g1, hB, this⟩
theorem MuD.low {p : Pg} {base : Nat} {A B D : Option Addr} {ca cb cd : Nat} {ys : List (Fc × Value)} {zs : List (List Int × Value)} {V : World} (h : MuD p base A B D ca cb cd ys zs V) {b j : Nat} {v : Value} (hb : b < base) : MuD p base A B D ca cb cd ys zs (V.setCell ⟨b, j, none⟩ v) := by
  have hset : ∀ {y : Rw}, y.own base V → y.own base (V.setCell ⟨b, j, none⟩ v) := fun hy => own_set hy (fun e => by have := own_ge hy e; omega)
  obtain ⟨g1, hB⟩ := h.bs
  have hfs := hset (y := ⟨_, _, _, _, _⟩) h.fs
  have hgl := hset (y := ⟨_, _, _, _, _⟩) h.gl
  have hls := hset (y := ⟨_, _, _, _, _⟩) h.ls
  have hcs : ∀ y ∈ ys, (codeRow y).own base (V.setCell ⟨b, j, none⟩ v) := fun y hy => hset (h.cs y hy)
  have hlr : ∀ z ∈ zs, (layRow z).own base (V.setCell ⟨b, j, none⟩ v) := fun z hz => hset (h.lr z hz)
  exact ⟨⟨copied_funcs h.pg hfs h.yl h.sl hcs, by subst hB; exact copied_globals h.pg hgl, copied_lays h.pg hls h.zl h.zsl hlr, h.pg.m, h.pg.ka, h.pg.kb, h.pg.kd⟩, hfs, h.yl, h.sl, hcs, hgl, hls, h.zl, h.zsl, hlr, h.d, h.pw, h.bs⟩
theorem Pw.fin {p : Pg} {n m : Nat} {A B D : Option Addr} {ca cb cd : Nat} {zs : List (List Int × Value)} {w W : World} (h : Pw p n m A B D ca cb cd zs p.funcs.length 0 w W) (v0 v1 v2 v3 : Value) :
    PgAt ((((W.setCell ⟨n + 1, 0, none⟩ v0).setCell ⟨n + 1, 1, none⟩ v1).setCell ⟨n + 1, 2, none⟩ v2).setCell ⟨n + 1, 3, none⟩ v3) (plainP p) A B D ca cb cd ∧ Below w.heap.size w ((((W.setCell ⟨n + 1, 0, none⟩ v0).setCell ⟨n + 1, 1, none⟩ v1).setCell ⟨n + 1, 2, none⟩ v2).setCell ⟨n + 1, 3, none⟩ v3) := by
  obtain ⟨ys, hy⟩ := h.mu
  have h1 := MuD.low (j := 3) (v := v3) (MuD.low (j := 2) (v := v2) (MuD.low (j := 1) (v := v1) (MuD.low (j := 0) (v := v0) hy (b := n + 1) (by omega)) (b := n + 1) (by omega)) (b := n + 1) (by omega)) (b := n + 1) (by omega)
  have hp := h1.pg
  have hb := h.bel
  have hw := h.hw
  rw [hw]
  refine ⟨?_, bel_set4 hb (by have := hb.size; omega) (by omega)⟩
  rw [← part_end p]
  exact ⟨hp.fs, hp.gs, hp.ls, by show i64 0; unfold i64; omega, hp.ka, hp.kb, hp.kd⟩
theorem res_cell_tmp {fn : Func} {p u : Tmp} (h : fn.results = #[.cell p 26, .tmp u]) (tmps : Array Value) (V : World) (pb : Nat) (a0 a1 a2 a3 : Value) (h2 : tmps.getD p undef = .pointer (some ⟨pb, 0, none⟩)) (hp : V.heap[pb]? = some (.cells #[a0, a1, a2, a3] 26 (0, 0))) :
    (results fn tmps).run Tryd.prog V = .ok (.tuple #[.agg #[a0, a1, a2, a3], tmps.getD u undef]) V := by
  rw [results_cell_tmp h]
  obtain ⟨⟨c0, c1, c2, c3⟩, _⟩ := cells4 hp
  have h2' : tmps[p]?.getD undef = .pointer (some ⟨pb, 0, none⟩) := by simpa using h2
  simp [h2', asAddr, go_sem, c0, c1, c2, c3]
end Go.Proofs.YtekfhgldebhigaaDoor

namespace Go.Proofs.YtekfhgldebhigaaDoor
open Go.RowKit C
theorem str_size2 {s : ByteArray} {l : Bs} (h : s.data.toList = l) : s.size = l.length := by rw [← h]; rfl
theorem take_flat {α : Type} {f : α → Bs} {l : List α} {k : Nat} : ((l.take k).flatMap f).length ≤ (l.flatMap f).length := by
  conv => rhs; rw [← List.take_append_drop k l]
  rw [List.flatMap_append, List.length_append]
  omega
theorem one_flat_len {α : Type} {f : α → Bs} {l : List α} {x : α} (h : x ∈ l) : (f x).length ≤ (l.flatMap f).length := by
  induction l with
  | nil => cases h
  | cons a l ih =>
    rw [List.flatMap_cons, List.length_append]
    rcases List.mem_cons.1 h with rfl | h
    · omega
    · have := ih h; omega
set_option maxRecDepth 100000 in
set_option maxHeartbeats 16000000 in
theorem plain_any (p : Pg) (A B D : Option Addr) (ca cb cd : Nat) (w : World) (hp : PgAt w p A B D ca cb cd) (hz : Sz p) (hk : (namesT p).length ≤ 2000000) :
    Calls Tryd.prog 9 #[pv p A B D ca cb cd] w fun e w' => ∃ A' B' D' ca' cb' cd', e = .returned (.tuple #[pv (plainP p) A' B' D' ca' cb' cd', .bool (namesB p)]) ∧ PgAt w' (plainP p) A' B' D' ca' cb' cd' ∧ Below w.heap.size w w' := by
  have HY : Hid (∀ V, Below w.heap.size w V → Calls Tryd.prog 27 #[pv p A B D ca cb cd] V (CpMu p V)) := Lib.hid fun V hV => copy_mu p A B D ca cb cd V (hp.below hV) hz
  have HK := Lib.hid hk
  have HG1 := Lib.hid hz.g
  have HF1 := Lib.hid hz.f
  have HC1 := Lib.hid hz.c
  obtain ⟨⟨q0, q1, q2, q3⟩, -⟩ := cells4 (heap2a w (pbO p A B D ca cb cd) (.cells #[.slice none 0 0, .slice none 0 0, .slice none 0 0, .int .i64 0] 26))
  have HB := Lib.hid (below2 w (pbO p A B D ca cb cd) (.cells #[.slice none 0 0, .slice none 0 0, .slice none 0 0, .int .i64 0] 26))
  have HR0 := Lib.hid (heap2 w (pbO p A B D ca cb cd) (.cells #[.slice none 0 0, .slice none 0 0, .slice none 0 0, .int .i64 0] 26))
  clear hp hz hk
  go_enter Tryd.func9, Tryd.ntmps9
  go_wp2_with fail
  refine (HY.out _ HB.out).mono ?_
  rintro e w3 ⟨A1, B1, D1, ca1, cb1, cd1, ys, zs, rfl, hmu, hb3⟩
  obtain ⟨m, hm⟩ : ∃ m, m = w3.heap.size := ⟨_, rfl⟩
  have hpw : Pw p w.heap.size m A1 B1 D1 ca1 cb1 cd1 zs 0 0 w (w3.alloc (.cells #[.slice A1 p.funcs.length ca1, .slice B1 p.globals.length cb1, .slice D1 p.layouts.length cd1, .int .i64 0] 26)) := by
    have hs : ((w.alloc (pbO p A B D ca cb cd)).alloc (.cells #[.slice none 0 0, .slice none 0 0, .slice none 0 0, .int .i64 0] 26)).heap.size = w.heap.size + 2 := by simp
    rw [hs] at hmu hb3
    have hs3 := hb3.size
    have hba := below1 w3 (.cells #[.slice A1 p.funcs.length ca1, .slice B1 p.globals.length cb1, .slice D1 p.layouts.length cd1, .int .i64 0] 26)
    refine ⟨⟨ys, ?_⟩, by rw [hm]; exact heap_alloc_new _ _, (hba.block (w.heap.size + 1) (by rw [hs] at hs3; omega)).trans ((hb3.block (w.heap.size + 1) (by omega)).trans HR0.out), (HB.out.trans (hb3.mono (by omega))).trans (hba.mono (by rw [hs] at hs3; omega)), rfl, by rw [hs] at hs3; omega⟩
    rw [part_zero]
    exact hmu.keep hba
  have HPW := Lib.hid hpw
  have HM := Lib.hid hm
  clear hpw hmu hb3 q0 q1 q2 q3
  subst hm
  go_wp2_with fail
  go_loopw [5, 6] (fun s5 s6 wr => ∃ (k : Nat) (st : ByteArray), s6 = .int .i64 (k : Int) ∧ s5 = .string st ∧ k ≤ p.globals.length ∧ Hid (st.data.toList = (p.globals.take k).flatMap glN) ∧ Hid (Pw p w.heap.size w3.heap.size A1 B1 D1 ca1 cb1 cd1 zs 0 0 w wr)) (fun _ s6 _ => p.globals.length - (intOf s6).toNat)
  case atStart => exact ⟨0, _, rfl, rfl, Nat.zero_le _, Lib.hid rfl, HPW⟩
  case round =>
    obtain ⟨k, st, rfl, rfl, hk, hst, hx⟩ := hrel
    obtain ⟨⟨q0, q1, q2, q3⟩, -⟩ := cells4 hx.out.box
    have hgl := HG1.out
    by_cases hlt : k < p.globals.length
    · obtain ⟨g1, rfl, hc⟩ := hx.out.g1 hlt
      have HTK := Lib.hid (flat_take glN hlt)
      have hss : st.size ≤ 2000000 := by
        rw [str_size2 hst.out]
        have h1 := take_flat (f := glN) (l := p.globals) (k := k)
        have h2 := HK.out
        unfold namesT at h2
        rw [List.length_append] at h2
        omega
      have hns : p.globals[k].name.size ≤ 2000000 := by
        have h1 : p.globals[k].name.size ≤ (p.globals.flatMap glN).length := one_flat_len (f := glN) (List.getElem_mem hlt)
        have h2 := HK.out
        unfold namesT at h2
        rw [List.length_append] at h2
        omega
      obtain ⟨x, hxx⟩ : ∃ x, p.globals[k] = x := ⟨_, rfl⟩
      rw [hxx] at hc hns HTK
      have z1 : ¬ 9223372036854775807 < st.size + x.name.size := by omega
      have k1 : (k : Int) + 1 ≤ 1048576 := by omega
      clear hxx
      go_wp2
      go_roundw
      case rel => exact ⟨k + 1, _, by go_num, rfl, hlt, Lib.hid (by rw [HTK.out, ← hst.out]; simp [glN]), hx⟩
      case measure => simp [intOf]; omega
    · obtain rfl : k = p.globals.length := by omega
      have HST := Lib.hid (by have := hst.out; rwa [List.take_length] at this)
      obtain ⟨TGN, hTG⟩ : ∃ T, p.globals.flatMap glN = T := ⟨_, rfl⟩
      rw [hTG] at HST
      have HTGN := Lib.hid hTG
      have HX := hx
      clear hst hTG hx hk
      go_wp2_with fail
      clear q0 q1 q2 q3 hgl
      go_loopw [5, 7] (fun s5 s7 wr => ∃ (k : Nat) (st : ByteArray), s7 = .int .i64 (k : Int) ∧ s5 = .string st ∧ k ≤ p.funcs.length ∧ Hid (st.data.toList = TGN ++ (p.funcs.take k).flatMap fnN) ∧ Hid (Pw p w.heap.size w3.heap.size A1 B1 D1 ca1 cb1 cd1 zs k 0 w wr)) (fun _ s7 _ => p.funcs.length - (intOf s7).toNat)
      case atStart => exact ⟨0, st, rfl, rfl, Nat.zero_le _, Lib.hid (by rw [HST.out]; simp), HX⟩
      case round =>
        obtain ⟨k, st, rfl, rfl, hk, hst, hx⟩ := hrel
        obtain ⟨⟨q0, q1, q2, q3⟩, -⟩ := cells4 hx.out.box
        have hfl := HF1.out
        by_cases hlt : k < p.funcs.length
        · obtain ⟨g, rfl, hc0, A', c', hc3, hcap⟩ := hx.out.fn hlt
          have HTK := Lib.hid (flat_take fnN hlt)
          have HCL := Lib.hid (HC1.out _ (List.getElem_mem hlt))
          have hss : st.size ≤ 2000000 := by
            rw [str_size2 hst.out, List.length_append]
            have h1 := take_flat (f := fnN) (l := p.funcs) (k := k)
            have h2 := HK.out
            unfold namesT at h2
            rw [List.length_append, HTGN.out] at h2
            omega
          have hns : p.funcs[k].name.size ≤ 2000000 := by
            have h1 : p.funcs[k].name.size ≤ (p.funcs.flatMap fnN).length := one_flat_len (f := fnN) (List.getElem_mem hlt)
            have h2 := HK.out
            unfold namesT at h2
            rw [List.length_append] at h2
            omega
          have HSTEP : Hid (∀ (j : Nat) (W : World), j < p.funcs[k].code.length → Pw p w.heap.size w3.heap.size (some ⟨g, 0, none⟩) B1 D1 ca1 cb1 cd1 zs k j w W → _) := Lib.hid fun j W hj h => Pw.step h hlt hj
          have HFN : Hid (∀ (j : Nat) (W : World), Pw p w.heap.size w3.heap.size (some ⟨g, 0, none⟩) B1 D1 ca1 cb1 cd1 zs k j w W → _) := Lib.hid fun j W h => Pw.fn h hlt
          have HTURN : Hid (∀ (W : World), Pw p w.heap.size w3.heap.size (some ⟨g, 0, none⟩) B1 D1 ca1 cb1 cd1 zs k p.funcs[k].code.length w W → _) := Lib.hid fun W h => Pw.turn hlt h
          obtain ⟨x, hxx⟩ : ∃ x, p.funcs[k] = x := ⟨_, rfl⟩
          simp only [hxx] at hc0 hc3 hns HTK HSTEP HFN HTURN HCL
          have z1 : ¬ 9223372036854775807 < st.size + x.name.size := by omega
          have k1 : (k : Int) + 1 ≤ 1048576 := by omega
          have cl1 := HCL.out
          have HX2 := hx
          clear hxx hx
          go_wp2_with fail
          clear q0 q1 q2 q3 hc0 hc3
          go_loopw [8] (fun s8 wr => ∃ (j : Nat), s8 = .int .i64 (j : Int) ∧ j ≤ x.code.length ∧ Hid (Pw p w.heap.size w3.heap.size (some ⟨g, 0, none⟩) B1 D1 ca1 cb1 cd1 zs k j w wr)) (fun s8 _ => x.code.length - (intOf s8).toNat)
          case atStart => exact ⟨0, rfl, Nat.zero_le _, HX2⟩
          case round =>
            obtain ⟨j, rfl, hj, hx⟩ := hrel
            obtain ⟨⟨q0, q1, q2, q3⟩, -⟩ := cells4 hx.out.box
            by_cases hjl : j < x.code.length
            · obtain ⟨g', g5, c5, at', eg, hc3, hc4, hf4, hcap5, hnext⟩ := HSTEP.out j _ hjl hx.out
              have eg2 := Option.some.inj eg
              have eg3 : g = g' := by injection eg2
              subst eg3
              have HNX := Lib.hid hnext
              have hx5 := hx
              clear eg eg2 hnext hx
              go_wp2
              go_roundw
              case rel => exact ⟨j + 1, by go_num, hjl, HNX⟩
              case measure => simp [intOf]; omega
            · obtain rfl : j = x.code.length := by omega
              obtain ⟨g', eg, hc0, A2, c2, hc3, hcap2⟩ := HFN.out _ _ hx.out
              have eg2 := Option.some.inj eg
              have eg3 : g = g' := by injection eg2
              subst eg3
              have HX6 := hx
              clear eg eg2 hx
              go_wp2
              go_roundw
              case rel => exact ⟨k + 1, _, by go_num, rfl, hlt, Lib.hid (by rw [HTK.out, ← List.append_assoc, ← hst.out]; simp [fnN]), Lib.hid (HTURN.out _ HX6.out)⟩
              case measure => simp [intOf]; omega
        · obtain rfl : k = p.funcs.length := by omega
          have HS : Hid (st.data.toList = namesT p) := Lib.hid (by have := hst.out; rw [List.take_length, ← HTGN.out] at this; exact this)
          have hss : st.size ≤ 2000000 := by
            rw [str_size2 HS.out]
            exact HK.out
          have HX7 := hx
          clear hst hx HST HX hk
          go_wp2_with fail
          clear q0 q1 q2 q3
          go_loopw [9] (fun s9 wr' => ∃ (j : Nat), s9 = .int .i64 (j : Int) ∧ j ≤ st.size ∧ Hid ((st.data.toList.take j).all goodB = true) ∧ wr' = wr) (fun s9 _ => st.size - (intOf s9).toNat)
          case atStart => exact ⟨0, rfl, Nat.zero_le _, Lib.hid rfl, rfl⟩
          case round =>
            obtain ⟨j, rfl, hj, hg, rfl⟩ := hrel
            obtain ⟨⟨q0, q1, q2, q3⟩, -⟩ := cells4 HX7.out.box
            obtain ⟨⟨r0, r1, r2, r3⟩, ⟨f0, f1, f2, f3⟩⟩ := cells4 HX7.out.res
            have hjs : (j : Int) ≤ 2000000 := by omega
            by_cases hjl : j < st.size
            · have hb0 : (0 : Int) ≤ (j : Int) := by omega
              have hb1 : (j : Int) < (st.size : Int) := by omega
              have hjd : j < st.data.toList.length := hjl
              have HTJ : Hid ((st.data.toList.take (j + 1)).all goodB = ((st.data.toList.take j).all goodB && goodB (st[j]'hjl))) := Lib.hid (by rw [List.take_succ_eq_append_getElem hjd, List.all_append]; simp; rfl)
              obtain ⟨t, ht⟩ : ∃ t, (st[j]'hjl).toNat = t := ⟨_, rfl⟩
              have HGB : Hid (goodB (st[j]'hjl) = (!(t == 32) && !(t == 10))) := Lib.hid (by unfold goodB; rw [ht])
              have HFA : Hid (goodB (st[j]'hjl) = false → namesB p = false) := Lib.hid fun e => by
                unfold namesB
                rw [← HS.out]
                cases hc : st.data.toList.all goodB with
                | false => rfl
                | true =>
                  rw [List.all_eq_true] at hc
                  have h1 := hc _ (List.getElem_mem hjd)
                  have h2 : st.data.toList[j] = (st[j]'hjl) := by simp; rfl
                  rw [h2, e] at h1
                  cases h1
              by_cases e1 : t = 32
              · subst e1
                have HB8 : Hid (namesB p = false) := Lib.hid (HFA.out (by rw [HGB.out]; rfl))
                clear hjd
                go_wp2
                try simp only [Exit.inBlock, Exit.then]
                refine bodyPost_ret (res_cell_tmp rfl _ _ (w.heap.size + 1) _ _ _ _ rfl (blk4 HX7.out.res)) rfl ?_
                obtain ⟨hP, hB⟩ := HX7.out.fin (.slice A1 p.funcs.length ca1) (.slice B1 p.globals.length cb1) (.slice D1 p.layouts.length cd1) (.int .i64 0)
                refine ⟨A1, B1, D1, ca1, cb1, cd1, ?_, hP, hB⟩
                rw [HB8.out]
                simp [plainP]
              · by_cases e2 : t = 10
                · subst e2
                  have HB8 : Hid (namesB p = false) := Lib.hid (HFA.out (by rw [HGB.out]; rfl))
                  clear hjd
                  go_wp2
                  try simp only [Exit.inBlock, Exit.then]
                  refine bodyPost_ret (res_cell_tmp rfl _ _ (w.heap.size + 1) _ _ _ _ rfl (blk4 HX7.out.res)) rfl ?_
                  obtain ⟨hP, hB⟩ := HX7.out.fin (.slice A1 p.funcs.length ca1) (.slice B1 p.globals.length cb1) (.slice D1 p.layouts.length cd1) (.int .i64 0)
                  refine ⟨A1, B1, D1, ca1, cb1, cd1, ?_, hP, hB⟩
                  rw [HB8.out]
                  simp [plainP]
                · have e3 : ¬ (t : Int) = 32 := by omega
                  have e4 : ¬ (t : Int) = 10 := by omega
                  have e5 : ((t : Int) == 32) = false := by simp; omega
                  have e6 : ((t : Int) == 10) = false := by simp; omega
                  have HB9 := Lib.hid (show goodB (st[j]'hjl) = true by rw [HGB.out]; simp [e1, e2])
                  clear hjd
                  go_wp2
                  exact ⟨⟨j + 1, by go_num, hjl, Lib.hid (by rw [HTJ.out, hg.out, HB9.out]; rfl), trivial⟩, by simp [intOf]; omega⟩
            · obtain rfl : j = st.size := by omega
              have HB8 : Hid (namesB p = true) := Lib.hid (by unfold namesB; rw [← HS.out]; have := hg.out; rwa [List.take_of_length_le (show st.data.toList.length ≤ st.size from Nat.le_refl _)] at this)
              go_wp2
              try simp only [Exit.inBlock, Exit.then]
              refine bodyPost_ret (res_cell_tmp rfl _ _ (w.heap.size + 1) _ _ _ _ rfl (blk4 HX7.out.res)) rfl ?_
              obtain ⟨hP, hB⟩ := HX7.out.fin (.slice A1 p.funcs.length ca1) (.slice B1 p.globals.length cb1) (.slice D1 p.layouts.length cd1) (.int .i64 0)
              refine ⟨A1, B1, D1, ca1, cb1, cd1, ?_, hP, hB⟩
              rw [HB8.out]
              simp [plainP]
end Go.Proofs.YtekfhgldebhigaaDoor
