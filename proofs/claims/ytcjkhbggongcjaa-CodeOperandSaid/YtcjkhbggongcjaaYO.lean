/-
  How a change that came in is opened: a program and three numbers of sixteen bits.
-/
import Derived.Test.YtcjkhbggongcjaaOB
set_option linter.all false
namespace Go.Proofs.Ytcjkhbggongcjaa
open Go.ChangeShapes Go.WideShapes Go.RowKit Go.Deep C
set_option maxRecDepth 10000
theorem cells42 : Try.prog.cellsOf 42 = 7 := by kernel_rfl
theorem cells40 : Try.prog.cellsOf 40 = 1 := by kernel_rfl
def u16 (v : Int) : Prop := 0 ≤ v ∧ v ≤ 65535
theorem wf_u16 {v : Int} (h : (Lit.int .u16 v).wf = true) : u16 v := by
  unfold Lit.wf at h
  rw [Bool.and_eq_true, decide_eq_true_eq, decide_eq_true_eq] at h
  have e : IntKind.u16.max = 65535 := by decide
  have e2 : IntKind.u16.min = 0 := by decide
  unfold u16
  have h1 : IntKind.u16.min ≤ v := h.1
  have h2 : v ≤ IntKind.u16.max := h.2
  omega
/-- A change as a value. -/
abbrev cv (p : Pg) (A B D : Option Addr) (ca cb cd : Nat) (x y z : Int) : Value := .agg #[.slice A p.funcs.length ca, .slice B p.globals.length cb, .slice D p.layouts.length cd, .int .i64 p.main, .int .u16 x, .int .u16 y, .int .u16 z]
section
variable {H : Type} {enc : TypeId × Value → H} {w : World} {base : Nat} {sp : Nat → Bool} {held : Bool}
theorem open_pg_cells {n : Nat} {c0 c1 c2 c3 : Value} {x : DataW H × List MemPlace} (hf : DataW.trod enc Try.prog w base sp held n 26 [c0, c1, c2, c3] = some x) :
    ∃ (q : Pg) (A B D : Option Addr) (ca cb cd : Nat), c0 = .slice A q.funcs.length ca ∧ c1 = .slice B q.globals.length cb ∧ c2 = .slice D q.layouts.length cd ∧ c3 = .int .i64 q.main ∧ PgAt w q A B D ca cb cd := by
  obtain ⟨xs, m, hn, hx, hcl, hlen, hf⟩ := DataW.trod_struct Try.underlying26 hf
  match xs, hlen with
  | [y0, y1, y2, y3], _ =>
    have g0 : DataW.trod enc Try.prog w base sp held m 22 [c0] = some y0 := by simpa [cells22] using hf 0 _ rfl
    have g1 : DataW.trod enc Try.prog w base sp held m 23 [c1] = some y1 := by simpa [cells23] using hf 1 _ rfl
    have g2 : DataW.trod enc Try.prog w base sp held m 24 [c2] = some y2 := by simpa [cells24] using hf 2 _ rfl
    have g3 : DataW.trod enc Try.prog w base sp held m 3 [c3] = some y3 := by simpa [cells3] using hf 3 _ rfl
    obtain ⟨A, ca, fs, hv0, hc0, hm0, hr0, hb0⟩ := open_rows Try.underlying22 cells38 (by omega) (FnAt w) (fun f => f.name.size + f.code.length + 1) (fun m cs e h => open_fn h) g0
    obtain ⟨B, cb, gs, hv1, hc1, hm1, hr1, hb1⟩ := open_rows Try.underlying23 cells52 (by omega) (GlAt w) (fun g => g.name.size + 1) (fun m cs e h => open_gl h) g1
    obtain ⟨D, cd, ls, hv2, hc2, hm2, hr2, hb2⟩ := open_rows Try.underlying24 cells33 (by omega) (LyAt w) (·.length) (fun m cs e h => open_ly h) g2
    obtain ⟨k3, e3, _, w3⟩ := DataW.trod_int Try.underlying3 g3
    simp only [List.cons.injEq, and_true] at e3
    exact ⟨⟨fs, gs, ls, k3⟩, A, B, D, ca, cb, cd, hv0, hv1, hv2, e3, ⟨hr0, hr1, hr2, wf_i64 w3, ⟨hc0, hm0⟩, ⟨hc1, hm1⟩, ⟨hc2, hm2⟩⟩⟩
theorem open_change {r : Reach} {b0 : Nat} {v : Value} {d : DataW H} {p : List MemPlace} (hv : Value.okWide Try.prog w r b0 42 v) (h : DataW.Trod enc Try.prog w base sp held 42 v d p) :
    ∃ (q : Pg) (A B D : Option Addr) (ca cb cd : Nat) (x y z : Int), v = cv q A B D ca cb cd x y z ∧ PgAt w q A B D ca cb cd ∧ u16 x ∧ u16 y ∧ u16 z := by
  obtain ⟨cs, rfl, hsz⟩ := okWide_struct Try.underlying42 hv
  obtain ⟨fuel, hf⟩ := h
  obtain ⟨xs, m, hn, hx, hcl, hlen, hf⟩ := DataW.trod_struct Try.underlying42 hf
  obtain ⟨cs⟩ := cs
  simp only [Value.cells] at hcl hf
  rw [cells42] at hcl
  match cs, hcl with
  | [c0, c1, c2, c3, c4, c5, c6], _ =>
    match xs, hlen with
    | [y0, y1, y2, y3], _ =>
      have g0 : DataW.trod enc Try.prog w base sp held m 26 [c0, c1, c2, c3] = some y0 := by simpa [cells26] using hf 0 _ rfl
      have g1 : DataW.trod enc Try.prog w base sp held m 40 [c4] = some y1 := by simpa [cells26, cells40] using hf 1 _ rfl
      have g2 : DataW.trod enc Try.prog w base sp held m 40 [c5] = some y2 := by simpa [cells26, cells40] using hf 2 _ rfl
      have g3 : DataW.trod enc Try.prog w base sp held m 40 [c6] = some y3 := by simpa [cells26, cells40] using hf 3 _ rfl
      obtain ⟨q, A, B, D, ca, cb, cd, rfl, rfl, rfl, rfl, hp⟩ := open_pg_cells g0
      obtain ⟨k1, e1, _, w1⟩ := DataW.trod_int Try.underlying40 g1
      obtain ⟨k2, e2, _, w2⟩ := DataW.trod_int Try.underlying40 g2
      obtain ⟨k3, e3, _, w3⟩ := DataW.trod_int Try.underlying40 g3
      simp only [List.cons.injEq, and_true] at e1 e2 e3
      subst e1 e2 e3
      exact ⟨q, A, B, D, ca, cb, cd, k1, k2, k3, rfl, hp, wf_u16 w1, wf_u16 w2, wf_u16 w3⟩
end
end Go.Proofs.Ytcjkhbggongcjaa
