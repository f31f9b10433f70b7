/-
  Bytes that came in; what the bulk bounds of a program.
-/
import Derived.Test.YtlkaeonedijfpaaBE
import Derived.Test.YtlkaeonedijfpaaOB
set_option linter.all false
namespace Go.Proofs.Ytlkaeonedijfpaa
open Go.ChangeShapes Go.WideShapes Go.RowKit Go.Deep C
set_option maxRecDepth 10000
theorem bulk_pos {H : Type} (d : DataW H) : 1 ≤ Rows.uptoBulk d := by
  cases d with
  | lit l => cases l <;> simp [Rows.uptoBulk]
  | _ => simp [Rows.uptoBulk]
section
variable {H : Type} {enc : TypeId × Value → H} {w : World} {base : Nat} {sp : Nat → Bool} {held : Bool}
theorem lay_len {r : Reach} {b0 : Nat} {v : Value} {d : DataW H} {p : List MemPlace} {q : Pg} {A B D : Option Addr} {ca cb cd : Nat} (hv : Value.okWide Try.prog w r b0 31 v) (h : DataW.Trod enc Try.prog w base sp held 31 v d p) (he : v = pv q A B D ca cb cd) : q.layouts.length ≤ Rows.uptoBulk d := by
  obtain ⟨cs, hcs, hsz⟩ := okWide_struct Try.underlying31 hv
  obtain ⟨fuel, hf⟩ := h
  obtain ⟨xs, m, hn, hx, hcl, hlen, hf⟩ := DataW.trod_struct Try.underlying31 hf
  subst he
  simp only [Value.cells] at hcl hf
  rw [cells26] at hcl
  match xs, hlen with
  | [y0, y1, y2, y3], _ =>
    have g2 : DataW.trod enc Try.prog w base sp held m 29 [.slice D q.layouts.length cd] = some y2 := by simpa [cells24] using hf 2 _ rfl
    obtain ⟨D2, cd2, ls, hv2, hc2, hm2, hr2, hb2⟩ := open_rows Try.underlying29 cells33 (by omega) (LyAt w) (fun _ => 1) (fun m cs e h => by
      obtain ⟨X, _, hX⟩ := open_ly h
      exact ⟨X, bulk_pos _, hX⟩) g2
    rw [sum_one] at hb2
    have e2 : q.layouts.length = ls.length := by injection hv2
    have hx1 := congrArg (·.1) hx
    simp only at hx1
    rw [hx1, e2]
    simp [Rows.uptoBulk, Rows.uptoBulkAll]
    omega
theorem bk_of {q : Pg} {n : Nat} (hb : (q.funcs.map fun f => f.name.size + f.code.length + 1).sum + (q.globals.map fun g => g.name.size + 1).sum + (q.layouts.map (·.length)).sum ≤ n) (hl : q.layouts.length ≤ n) (hn : n ≤ 1048576) : Bk q := ⟨by omega, by omega⟩
theorem wf_u16 {v : Int} (h : (Lit.int .u16 v).wf = true) : 0 ≤ v ∧ v ≤ 65535 := by
  unfold Lit.wf at h
  rw [Bool.and_eq_true, decide_eq_true_eq, decide_eq_true_eq] at h
  have e : IntKind.u16.max = 65535 := by decide
  have e2 : IntKind.u16.min = 0 := by decide
  have h1 : IntKind.u16.min ≤ v := h.1
  have h2 : v ≤ IntKind.u16.max := h.2
  omega
theorem wf_u8 {v : Int} (h : (Lit.int .u8 v).wf = true) : 0 ≤ v ∧ v ≤ 255 := by
  unfold Lit.wf at h
  rw [Bool.and_eq_true, decide_eq_true_eq, decide_eq_true_eq] at h
  have e : IntKind.u8.max = 255 := by decide
  have e2 : IntKind.u8.min = 0 := by decide
  have h1 : IntKind.u8.min ≤ v := h.1
  have h2 : v ≤ IntKind.u8.max := h.2
  omega
theorem open_b {m : Nat} {cs : List Value} {e : DataW H × List MemPlace} (h : DataW.trod enc Try.prog w base sp held m 5 cs = some e) :
    ∃ X : UInt8, 1 ≤ Rows.uptoBulk e.1 ∧ ∀ g o, (∀ j, j < 1 → w.cell? ⟨g, o + j, none⟩ = cs[j]?) → g < w.heap.size → ByAt w X g o := by
  obtain ⟨n, hc, hx, hw⟩ := DataW.trod_int Try.underlying5 h
  obtain ⟨h0, h1⟩ := wf_u8 hw
  refine ⟨UInt8.ofNat n.toNat, bulk_pos _, fun g o hat hg => ⟨hg, ?_⟩⟩
  have := hat 0 (by omega)
  rw [hc] at this
  simp only [Nat.add_zero, List.getElem?_cons_zero] at this
  rw [this]
  unfold u8v
  have e : (UInt8.ofNat n.toNat).toNat = n.toNat := by rw [UInt8.toNat_ofNat']; omega
  rw [e, Int.toNat_of_nonneg h0]
theorem cellsByte : Try.prog.cellsOf 5 = 1 := by kernel_rfl
theorem open_bytes {r : Reach} {b0 : Nat} {v : Value} {d : DataW H} {ps : List MemPlace} (hv : Value.okWide Try.prog w r b0 22 v) (h : DataW.Trod enc Try.prog w base sp held 22 v d ps) :
    ∃ (A : Option Addr) (cap : Nat) (l : Bs), v = .slice A l.length cap ∧ l.length ≤ cap ∧ l.length ≤ maxLen ∧ Row 1 (ByAt w) A l ∧ l.length ≤ Rows.uptoBulk d := by
  obtain ⟨a, n, c, rfl⟩ := okWide_slice Try.underlying22 hv
  obtain ⟨fuel, hf⟩ := h
  have hf' : DataW.trod enc Try.prog w base sp held fuel 22 [.slice a n c] = some (d, ps) := hf
  obtain ⟨A, cap, l, hv2, hc, hm, hr, hb⟩ := open_rows Try.underlying22 cellsByte (by omega) (ByAt w) (fun _ => 1) (fun m cs e h => open_b h) hf'
  rw [sum_one] at hb
  exact ⟨A, cap, l, hv2, hc, hm, hr, hb⟩
end
end Go.Proofs.Ytlkaeonedijfpaa
