/-
  How a program that came in is opened. No program text is reached here.
-/
import Derived.Test.YtekfhgldebhigaaDoorOA
set_option linter.all false
namespace Go.Proofs.YtekfhgldebhigaaDoor
open Go.ChangeShapes Go.WideShapes Go.RowKit Go.Deep C
set_option maxRecDepth 10000
theorem cells3 : Tryd.prog.cellsOf 3 = 1 := by kernel_rfl
theorem cells9 : Tryd.prog.cellsOf 9 = 1 := by kernel_rfl
theorem cells22 : Tryd.prog.cellsOf 22 = 1 := by kernel_rfl
theorem cells23 : Tryd.prog.cellsOf 23 = 1 := by kernel_rfl
theorem cells24 : Tryd.prog.cellsOf 24 = 1 := by kernel_rfl
theorem cells26 : Tryd.prog.cellsOf 26 = 4 := by kernel_rfl
theorem cells33 : Tryd.prog.cellsOf 39 = 1 := by kernel_rfl
theorem cells36 : Tryd.prog.cellsOf 35 = 1 := by kernel_rfl
theorem cells38 : Tryd.prog.cellsOf 37 = 4 := by kernel_rfl
theorem cells45 : Tryd.prog.cellsOf 34 = 5 := by kernel_rfl
theorem cells52 : Tryd.prog.cellsOf 45 = 2 := by kernel_rfl
theorem sum_one {α : Type} (l : List α) : (l.map fun _ => 1).sum = l.length := by
  induction l with
  | nil => rfl
  | cons a l ih => simp only [List.map_cons, List.sum_cons, ih, List.length_cons]; omega
section
variable {H : Type} {enc : TypeId × Value → H} {w : World} {base : Nat} {sp : Nat → Bool} {held : Bool}
theorem open_i {m : Nat} {cs : List Value} {e : DataW H × List MemPlace} (h : DataW.trod enc Tryd.prog w base sp held m 3 cs = some e) :
    ∃ X : Int, 1 ≤ Rows.uptoBulk e.1 ∧ ∀ g o, (∀ j, j < 1 → w.cell? ⟨g, o + j, none⟩ = cs[j]?) → g < w.heap.size → IntAt w X g o := by
  obtain ⟨k, e1, hd, hw⟩ := DataW.trod_int Tryd.underlying3 h
  subst e1
  refine ⟨k, ?_, fun g o hc hg => ⟨hg, hc 0 (by omega), wf_i64 hw⟩⟩
  rw [hd]; simp [Rows.uptoBulk]
theorem open_in {m : Nat} {cs : List Value} {e : DataW H × List MemPlace} (h : DataW.trod enc Tryd.prog w base sp held m 34 cs = some e) :
    ∃ X : In, 1 ≤ Rows.uptoBulk e.1 ∧ ∀ g o, (∀ j, j < 5 → w.cell? ⟨g, o + j, none⟩ = cs[j]?) → g < w.heap.size → InAt w X g o := by
  obtain ⟨xs, m, hn, hx, hcl, hlen, hf⟩ := DataW.trod_struct Tryd.underlying34 h
  rw [cells45] at hcl
  match cs, hcl with
  | [c0, c1, c2, c3, c4], _ =>
    match xs, hlen with
    | [y0, y1, y2, y3, y4], _ =>
      have g0 : DataW.trod enc Tryd.prog w base sp held m 3 [c0] = some y0 := by simpa [cells3] using hf 0 _ rfl
      have g1 : DataW.trod enc Tryd.prog w base sp held m 3 [c1] = some y1 := by simpa [cells3] using hf 1 _ rfl
      have g2 : DataW.trod enc Tryd.prog w base sp held m 3 [c2] = some y2 := by simpa [cells3] using hf 2 _ rfl
      have g3 : DataW.trod enc Tryd.prog w base sp held m 3 [c3] = some y3 := by simpa [cells3] using hf 3 _ rfl
      have g4 : DataW.trod enc Tryd.prog w base sp held m 3 [c4] = some y4 := by simpa [cells3] using hf 4 _ rfl
      obtain ⟨k0, e0, _, w0⟩ := DataW.trod_int Tryd.underlying3 g0
      obtain ⟨k1, e1, _, w1⟩ := DataW.trod_int Tryd.underlying3 g1
      obtain ⟨k2, e2, _, w2⟩ := DataW.trod_int Tryd.underlying3 g2
      obtain ⟨k3, e3, _, w3⟩ := DataW.trod_int Tryd.underlying3 g3
      obtain ⟨k4, e4, _, w4⟩ := DataW.trod_int Tryd.underlying3 g4
      simp only [List.cons.injEq, and_true] at e0 e1 e2 e3 e4
      subst e0 e1 e2 e3 e4
      refine ⟨⟨k0, k1, k2, k3, k4⟩, by rw [hx]; simp [Rows.uptoBulk], fun g o hc hg => ⟨hg, hc 0 (by omega), hc 1 (by omega), hc 2 (by omega), hc 3 (by omega), hc 4 (by omega), wf_i64 w0, wf_i64 w1, wf_i64 w2, wf_i64 w3, wf_i64 w4⟩⟩
theorem open_gl {m : Nat} {cs : List Value} {e : DataW H × List MemPlace} (h : DataW.trod enc Tryd.prog w base sp held m 45 cs = some e) :
    ∃ X : Gl, X.name.size + 1 ≤ Rows.uptoBulk e.1 ∧ ∀ g o, (∀ j, j < 2 → w.cell? ⟨g, o + j, none⟩ = cs[j]?) → g < w.heap.size → GlAt w X g o := by
  obtain ⟨xs, m, hn, hx, hcl, hlen, hf⟩ := DataW.trod_struct Tryd.underlying45 h
  rw [cells52] at hcl
  match cs, hcl with
  | [c0, c1], _ =>
    match xs, hlen with
    | [y0, y1], _ =>
      have g0 : DataW.trod enc Tryd.prog w base sp held m 9 [c0] = some y0 := by simpa [cells9] using hf 0 _ rfl
      have g1 : DataW.trod enc Tryd.prog w base sp held m 3 [c1] = some y1 := by simpa [cells3] using hf 1 _ rfl
      obtain ⟨k0, e0, d0, w0⟩ := DataW.trod_string Tryd.underlying9 g0
      obtain ⟨k1, e1, _, w1⟩ := DataW.trod_int Tryd.underlying3 g1
      simp only [List.cons.injEq, and_true] at e0 e1
      subst e0 e1
      refine ⟨⟨k0, k1⟩, by rw [hx]; simp [Rows.uptoBulk, Rows.uptoBulkAll, d0]; omega, fun g o hc hg => ⟨hg, hc 0 (by omega), hc 1 (by omega), w0, wf_i64 w1⟩⟩
theorem open_ly {m : Nat} {cs : List Value} {e : DataW H × List MemPlace} (h : DataW.trod enc Tryd.prog w base sp held m 39 cs = some e) :
    ∃ X : List Int, X.length ≤ Rows.uptoBulk e.1 ∧ ∀ g o, (∀ j, j < 1 → w.cell? ⟨g, o + j, none⟩ = cs[j]?) → g < w.heap.size → LyAt w X g o := by
  obtain ⟨v, rfl⟩ : ∃ v, cs = [v] := by
    rcases DataW.trod_slice Tryd.underlying39 h with ⟨h0, _⟩ | ⟨a, len, cap, elems, rest, m, _, hv, _⟩
    · exact ⟨_, h0⟩
    · exact ⟨_, hv⟩
  obtain ⟨A, cap, l, hv, hc, hm, hr, hb⟩ := open_rows Tryd.underlying39 cells3 (by omega) (IntAt w) (fun _ => 1) (fun m cs e h => open_i h) h
  subst hv
  rw [sum_one] at hb
  refine ⟨l, hb, fun g o hcc hg => ⟨hg, A, cap, hcc 0 (by omega), hc, hm, hr⟩⟩
theorem open_fn {m : Nat} {cs : List Value} {e : DataW H × List MemPlace} (h : DataW.trod enc Tryd.prog w base sp held m 37 cs = some e) :
    ∃ X : Fc, X.name.size + X.code.length + 1 ≤ Rows.uptoBulk e.1 ∧ ∀ g o, (∀ j, j < 4 → w.cell? ⟨g, o + j, none⟩ = cs[j]?) → g < w.heap.size → FnAt w X g o := by
  obtain ⟨xs, m, hn, hx, hcl, hlen, hf⟩ := DataW.trod_struct Tryd.underlying37 h
  rw [cells38] at hcl
  match cs, hcl with
  | [c0, c1, c2, c3], _ =>
    match xs, hlen with
    | [y0, y1, y2, y3], _ =>
      have g0 : DataW.trod enc Tryd.prog w base sp held m 9 [c0] = some y0 := by simpa [cells9] using hf 0 _ rfl
      have g1 : DataW.trod enc Tryd.prog w base sp held m 3 [c1] = some y1 := by simpa [cells3] using hf 1 _ rfl
      have g2 : DataW.trod enc Tryd.prog w base sp held m 3 [c2] = some y2 := by simpa [cells3] using hf 2 _ rfl
      have g3 : DataW.trod enc Tryd.prog w base sp held m 35 [c3] = some y3 := by simpa [cells36] using hf 3 _ rfl
      obtain ⟨k0, e0, d0, w0⟩ := DataW.trod_string Tryd.underlying9 g0
      obtain ⟨k1, e1, _, w1⟩ := DataW.trod_int Tryd.underlying3 g1
      obtain ⟨k2, e2, _, w2⟩ := DataW.trod_int Tryd.underlying3 g2
      obtain ⟨A, cap, l, hv, hc, hm, hr, hb⟩ := open_rows Tryd.underlying35 cells45 (by omega) (InAt w) (fun _ => 1) (fun m cs e h => open_in h) g3
      simp only [List.cons.injEq, and_true] at e0 e1 e2
      subst e0 e1 e2 hv
      refine ⟨⟨k0, k1, k2, l⟩, ?_, fun g o hcc hg => ⟨hg, hcc 0 (by omega), hcc 1 (by omega), hcc 2 (by omega), ⟨A, cap, hcc 3 (by omega), hc, hm, hr⟩, w0, wf_i64 w1, wf_i64 w2⟩⟩
      rw [hx]
      rw [sum_one] at hb
      simp [Rows.uptoBulk, Rows.uptoBulkAll, d0]
      omega
/-- A program that came in by value. -/
theorem open_pg {r : Reach} {b0 : Nat} {v : Value} {d : DataW H} {p : List MemPlace} (hv : Value.okWide Tryd.prog w r b0 26 v) (h : DataW.Trod enc Tryd.prog w base sp held 26 v d p) :
    ∃ (q : Pg) (A B D : Option Addr) (ca cb cd : Nat), v = pv q A B D ca cb cd ∧ PgAt w q A B D ca cb cd ∧
      (q.funcs.map fun f => f.name.size + f.code.length + 1).sum + (q.globals.map fun g => g.name.size + 1).sum + (q.layouts.map (·.length)).sum ≤ Rows.uptoBulk d := by
  obtain ⟨cs, rfl, hsz⟩ := okWide_struct Tryd.underlying26 hv
  obtain ⟨fuel, hf⟩ := h
  obtain ⟨xs, m, hn, hx, hcl, hlen, hf⟩ := DataW.trod_struct Tryd.underlying26 hf
  obtain ⟨cs⟩ := cs
  simp only [Value.cells] at hcl hf
  rw [cells26] at hcl
  match cs, hcl with
  | [c0, c1, c2, c3], _ =>
    match xs, hlen with
    | [y0, y1, y2, y3], _ =>
      have g0 : DataW.trod enc Tryd.prog w base sp held m 22 [c0] = some y0 := by simpa [cells22] using hf 0 _ rfl
      have g1 : DataW.trod enc Tryd.prog w base sp held m 23 [c1] = some y1 := by simpa [cells23] using hf 1 _ rfl
      have g2 : DataW.trod enc Tryd.prog w base sp held m 24 [c2] = some y2 := by simpa [cells24] using hf 2 _ rfl
      have g3 : DataW.trod enc Tryd.prog w base sp held m 3 [c3] = some y3 := by simpa [cells3] using hf 3 _ rfl
      obtain ⟨A, ca, fs, hv0, hc0, hm0, hr0, hb0⟩ := open_rows Tryd.underlying22 cells38 (by omega) (FnAt w) (fun f => f.name.size + f.code.length + 1) (fun m cs e h => open_fn h) g0
      obtain ⟨B, cb, gs, hv1, hc1, hm1, hr1, hb1⟩ := open_rows Tryd.underlying23 cells52 (by omega) (GlAt w) (fun g => g.name.size + 1) (fun m cs e h => open_gl h) g1
      obtain ⟨D, cd, ls, hv2, hc2, hm2, hr2, hb2⟩ := open_rows Tryd.underlying24 cells33 (by omega) (LyAt w) (·.length) (fun m cs e h => open_ly h) g2
      obtain ⟨k3, e3, _, w3⟩ := DataW.trod_int Tryd.underlying3 g3
      simp only [List.cons.injEq, and_true] at e3
      subst hv0 hv1 hv2 e3
      refine ⟨⟨fs, gs, ls, k3⟩, A, B, D, ca, cb, cd, rfl, ⟨hr0, hr1, hr2, wf_i64 w3, ⟨hc0, hm0⟩, ⟨hc1, hm1⟩, ⟨hc2, hm2⟩⟩, ?_⟩
      have hx1 := congrArg (·.1) hx
      simp only at hx1
      rw [hx1]
      simp [Rows.uptoBulk, Rows.uptoBulkAll]
      omega
end
end Go.Proofs.YtekfhgldebhigaaDoor
