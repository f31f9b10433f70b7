/-
  What the bulk bounds of a program that came in.
-/
import Derived.Test.YtekfhgldebhigaaDoorTI
import Derived.Test.YtekfhgldebhigaaDoorOB
set_option linter.all false
namespace Go.Proofs.YtekfhgldebhigaaDoor
open Go.ChangeShapes Go.WideShapes Go.RowKit Go.Deep C
set_option maxRecDepth 10000
theorem bulk_pos {H : Type} (d : DataW H) : 1 ≤ Rows.uptoBulk d := by
  cases d with
  | lit l => cases l <;> simp [Rows.uptoBulk]
  | _ => simp [Rows.uptoBulk]
section
variable {H : Type} {enc : TypeId × Value → H} {w : World} {base : Nat} {sp : Nat → Bool} {held : Bool}
theorem lay_len {r : Reach} {b0 : Nat} {v : Value} {d : DataW H} {p : List MemPlace} {q : Pg} {A B D : Option Addr} {ca cb cd : Nat} (hv : Value.okWide Tryd.prog w r b0 26 v) (h : DataW.Trod enc Tryd.prog w base sp held 26 v d p) (he : v = pv q A B D ca cb cd) : q.layouts.length ≤ Rows.uptoBulk d := by
  obtain ⟨cs, hcs, hsz⟩ := okWide_struct Tryd.underlying26 hv
  obtain ⟨fuel, hf⟩ := h
  obtain ⟨xs, m, hn, hx, hcl, hlen, hf⟩ := DataW.trod_struct Tryd.underlying26 hf
  subst he
  simp only [Value.cells] at hcl hf
  rw [cells26] at hcl
  match xs, hlen with
  | [y0, y1, y2, y3], _ =>
    have g2 : DataW.trod enc Tryd.prog w base sp held m 24 [.slice D q.layouts.length cd] = some y2 := by simpa [cells24] using hf 2 _ rfl
    obtain ⟨D2, cd2, ls, hv2, hc2, hm2, hr2, hb2⟩ := open_rows Tryd.underlying24 cells33 (by omega) (LyAt w) (fun _ => 1) (fun m cs e h => by
      obtain ⟨X, _, hX⟩ := open_ly h
      exact ⟨X, bulk_pos _, hX⟩) g2
    rw [sum_one] at hb2
    have e2 : q.layouts.length = ls.length := by injection hv2
    have hx1 := congrArg (·.1) hx
    simp only at hx1
    rw [hx1, e2]
    simp [Rows.uptoBulk, Rows.uptoBulkAll]
    omega
theorem bk_of {q : Pg} {n : Nat} (hb : (q.funcs.map fun f => f.name.size + f.code.length + 1).sum + (q.globals.map fun g => g.name.size + 1).sum + (q.layouts.map (·.length)).sum ≤ n) (hl : q.layouts.length ≤ n) (hn : n ≤ 1048576) : Bk q := ⟨by omega, by omega⟩
end
end Go.Proofs.YtekfhgldebhigaaDoor
