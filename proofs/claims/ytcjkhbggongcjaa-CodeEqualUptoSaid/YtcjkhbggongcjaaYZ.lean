/-
  What the bulk of what came in says of a program's numbers.
-/
import Derived.Test.YtcjkhbggongcjaaYC
set_option linter.all false
namespace Go.Proofs.Ytcjkhbggongcjaa
open Go.ChangeShapes Go.WideShapes Go.RowKit Go.Deep C
set_option maxRecDepth 10000
theorem mem_le_sum {α : Type} {f : α → Nat} {l : List α} {x : α} (h : x ∈ l) : f x ≤ (l.map f).sum := by
  induction l with
  | nil => cases h
  | cons a l ih =>
    simp only [List.map_cons, List.sum_cons]
    rcases List.mem_cons.1 h with rfl | h
    · omega
    · have := ih h; omega
theorem len_le_sum {α : Type} {f : α → Nat} {l : List α} (h : ∀ x ∈ l, 1 ≤ f x) : l.length ≤ (l.map f).sum := by
  induction l with
  | nil => simp
  | cons a l ih =>
    simp only [List.map_cons, List.sum_cons, List.length_cons]
    have h1 := h a List.mem_cons_self
    have h2 := ih fun x hx => h x (List.mem_cons_of_mem _ hx)
    omega
theorem bulk_pos {H : Type} (d : DataW H) : 1 ≤ Rows.uptoBulk d := by
  cases d with
  | lit l => cases l <;> simp [Rows.uptoBulk]
  | _ => simp [Rows.uptoBulk]
section
variable {H : Type} {enc : TypeId × Value → H} {w : World} {base : Nat} {sp : Nat → Bool} {held : Bool}
theorem lay_len {r : Reach} {b0 : Nat} {v : Value} {d : DataW H} {p : List MemPlace} {q : Pg} {A B D : Option Addr} {ca cb cd : Nat} (hv : Value.okWide Try.prog w r b0 26 v) (h : DataW.Trod enc Try.prog w base sp held 26 v d p) (he : v = pv q A B D ca cb cd) : q.layouts.length ≤ Rows.uptoBulk d := by
  obtain ⟨cs, hcs, hsz⟩ := okWide_struct Try.underlying26 hv
  obtain ⟨fuel, hf⟩ := h
  obtain ⟨xs, m, hn, hx, hcl, hlen, hf⟩ := DataW.trod_struct Try.underlying26 hf
  subst he
  simp only [Value.cells] at hcl hf
  rw [cells26] at hcl
  match xs, hlen with
  | [y0, y1, y2, y3], _ =>
    have g2 : DataW.trod enc Try.prog w base sp held m 24 [.slice D q.layouts.length cd] = some y2 := by simpa [cells24] using hf 2 _ rfl
    obtain ⟨D2, cd2, ls, hv2, hc2, hm2, hr2, hb2⟩ := open_rows Try.underlying24 cells33 (by omega) (LyAt w) (fun _ => 1) (fun m cs e h => by
      obtain ⟨X, _, hX⟩ := open_ly h
      exact ⟨X, bulk_pos _, hX⟩) g2
    rw [sum_one] at hb2
    have e2 : q.layouts.length = ls.length := by injection hv2
    have hx1 := congrArg (·.1) hx
    simp only at hx1
    rw [hx1, e2]
    simp [Rows.uptoBulk, Rows.uptoBulkAll]
    omega
theorem sz_of {q : Pg} {n : Nat} (hb : (q.funcs.map fun f => f.name.size + f.code.length + 1).sum + (q.globals.map fun g => g.name.size + 1).sum + (q.layouts.map (·.length)).sum ≤ n) (hl : q.layouts.length ≤ n) (hn : n ≤ 1048576) : Sz q := by
  have h1 := len_le_sum (l := q.funcs) (f := fun f => f.name.size + f.code.length + 1) (fun x _ => by simp)
  have h2 := len_le_sum (l := q.globals) (f := fun g => g.name.size + 1) (fun x _ => by simp)
  refine ⟨by omega, by omega, by omega, fun f hf => ?_, fun l hl => ?_⟩
  · have := mem_le_sum (f := fun f : Fc => f.name.size + f.code.length + 1) hf
    omega
  · have := mem_le_sum (f := fun l : List Int => l.length) hl
    omega
end
end Go.Proofs.Ytcjkhbggongcjaa
