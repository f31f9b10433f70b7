/-
  Programs in memory: rows of functions, instructions, variables and layouts; how a program that came in is opened. No program text is reached here.
-/
import Derived.Test.YtekfhgldebhigaaDoorMC
import Derived.Laws.AppendOwn
import Derived.Laws.OwnMore
import Derived.Test.YtekfhgldebhigaaDoorRows
import Derived.ChangeSame
import Derived.Deep.Slices
import Derived.OpenShut
set_option linter.all false
namespace Go.Proofs.YtekfhgldebhigaaDoor
open Go.ChangeShapes Go.WideShapes Go.RowKit Go.Deep C
set_option maxRecDepth 10000

/-- A row of elements lies at an address. -/
def Row {α : Type} (k : Nat) (R : α → Nat → Nat → Prop) (A : Option Addr) (l : List α) : Prop :=
  l = [] ∨ ∃ g o, A = some ⟨g, o, none⟩ ∧ ∀ i (h : i < l.length), R l[i] g (o + i * k)
theorem Row.imp {α : Type} {k : Nat} {R S : α → Nat → Nat → Prop} {A : Option Addr} {l : List α} (h : Row k R A l) (H : ∀ x g o, R x g o → S x g o) : Row k S A l := by
  rcases h with h | ⟨g, o, e, h⟩
  · exact .inl h
  · exact .inr ⟨g, o, e, fun i hi => H _ _ _ (h i hi)⟩
theorem Row.at {α : Type} {k : Nat} {R : α → Nat → Nat → Prop} {A : Option Addr} {l : List α} (h : Row k R A l) (hl : 0 < l.length) : ∃ g o, A = some ⟨g, o, none⟩ ∧ ∀ i (h : i < l.length), R l[i] g (o + i * k) := by
  rcases h with h | h
  · rw [h] at hl; cases hl
  · exact h

def i64 (v : Int) : Prop := -9223372036854775808 ≤ v ∧ v ≤ 9223372036854775807
structure IntAt (w : World) (v : Int) (g o : Nat) : Prop where
  lt : g < w.heap.size
  c0 : w.cell? ⟨g, o, none⟩ = some (.int .i64 v)
  b0 : i64 v
structure InAt (w : World) (x : In) (g o : Nat) : Prop where
  lt : g < w.heap.size
  c0 : w.cell? ⟨g, o, none⟩ = some (.int .i64 x.op)
  c1 : w.cell? ⟨g, o + 1, none⟩ = some (.int .i64 x.a)
  c2 : w.cell? ⟨g, o + 2, none⟩ = some (.int .i64 x.b)
  c3 : w.cell? ⟨g, o + 3, none⟩ = some (.int .i64 x.c)
  c4 : w.cell? ⟨g, o + 4, none⟩ = some (.int .i64 x.at')
  b0 : i64 x.op
  b1 : i64 x.a
  b2 : i64 x.b
  b3 : i64 x.c
  b4 : i64 x.at'
structure GlAt (w : World) (x : Gl) (g o : Nat) : Prop where
  lt : g < w.heap.size
  c0 : w.cell? ⟨g, o, none⟩ = some (.string x.name)
  c1 : w.cell? ⟨g, o + 1, none⟩ = some (.int .i64 x.kind)
  s0 : x.name.size ≤ maxLen
  b1 : i64 x.kind
structure LyAt (w : World) (r : List Int) (g o : Nat) : Prop where
  lt : g < w.heap.size
  row : ∃ A cap, w.cell? ⟨g, o, none⟩ = some (.slice A r.length cap) ∧ r.length ≤ cap ∧ r.length ≤ maxLen ∧ Row 1 (IntAt w) A r
structure FnAt (w : World) (f : Fc) (g o : Nat) : Prop where
  lt : g < w.heap.size
  c0 : w.cell? ⟨g, o, none⟩ = some (.string f.name)
  c1 : w.cell? ⟨g, o + 1, none⟩ = some (.int .i64 f.params)
  c2 : w.cell? ⟨g, o + 2, none⟩ = some (.int .i64 f.regs)
  row : ∃ A cap, w.cell? ⟨g, o + 3, none⟩ = some (.slice A f.code.length cap) ∧ f.code.length ≤ cap ∧ f.code.length ≤ maxLen ∧ Row 5 (InAt w) A f.code
  s0 : f.name.size ≤ maxLen
  b1 : i64 f.params
  b2 : i64 f.regs
/-- A program as a value. -/
abbrev pv (p : Pg) (A B D : Option Addr) (ca cb cd : Nat) : Value := .agg #[.slice A p.funcs.length ca, .slice B p.globals.length cb, .slice D p.layouts.length cd, .int .i64 p.main]
structure PgAt (w : World) (p : Pg) (A B D : Option Addr) (ca cb cd : Nat) : Prop where
  fs : Row 4 (FnAt w) A p.funcs
  gs : Row 2 (GlAt w) B p.globals
  ls : Row 1 (LyAt w) D p.layouts
  m : i64 p.main
  ka : p.funcs.length ≤ ca ∧ p.funcs.length ≤ maxLen
  kb : p.globals.length ≤ cb ∧ p.globals.length ≤ maxLen
  kd : p.layouts.length ≤ cd ∧ p.layouts.length ≤ maxLen

theorem bl_cell {W w1 : World} (hb : Below W.heap.size W w1) {b o : Nat} (h : b < W.heap.size) : w1.cell? ⟨b, o, none⟩ = W.cell? ⟨b, o, none⟩ := hb.cell (p := ⟨b, o, none⟩) h
theorem IntAt.below {W w : World} {v : Int} {g o : Nat} (h : IntAt W v g o) (hb : Below W.heap.size W w) : IntAt w v g o :=
  ⟨by have := hb.size; have := h.lt; omega, by rw [bl_cell hb h.lt]; exact h.c0, h.b0⟩
theorem InAt.below {W w : World} {x : In} {g o : Nat} (h : InAt W x g o) (hb : Below W.heap.size W w) : InAt w x g o :=
  ⟨by have := hb.size; have := h.lt; omega, by rw [bl_cell hb h.lt]; exact h.c0, by rw [bl_cell hb h.lt]; exact h.c1, by rw [bl_cell hb h.lt]; exact h.c2, by rw [bl_cell hb h.lt]; exact h.c3, by rw [bl_cell hb h.lt]; exact h.c4, h.b0, h.b1, h.b2, h.b3, h.b4⟩
theorem GlAt.below {W w : World} {x : Gl} {g o : Nat} (h : GlAt W x g o) (hb : Below W.heap.size W w) : GlAt w x g o :=
  ⟨by have := hb.size; have := h.lt; omega, by rw [bl_cell hb h.lt]; exact h.c0, by rw [bl_cell hb h.lt]; exact h.c1, h.s0, h.b1⟩
theorem LyAt.below {W w : World} {r : List Int} {g o : Nat} (h : LyAt W r g o) (hb : Below W.heap.size W w) : LyAt w r g o := by
  obtain ⟨A, cap, h1, h2, h3, h4⟩ := h.row
  exact ⟨by have := hb.size; have := h.lt; omega, A, cap, by rw [bl_cell hb h.lt]; exact h1, h2, h3, h4.imp fun x g o q => q.below hb⟩
theorem FnAt.below {W w : World} {f : Fc} {g o : Nat} (h : FnAt W f g o) (hb : Below W.heap.size W w) : FnAt w f g o := by
  obtain ⟨A, cap, h1, h2, h3, h4⟩ := h.row
  exact ⟨by have := hb.size; have := h.lt; omega, by rw [bl_cell hb h.lt]; exact h.c0, by rw [bl_cell hb h.lt]; exact h.c1, by rw [bl_cell hb h.lt]; exact h.c2, ⟨A, cap, by rw [bl_cell hb h.lt]; exact h1, h2, h3, h4.imp fun x g o q => q.below hb⟩, h.s0, h.b1, h.b2⟩
theorem PgAt.below {W w : World} {p : Pg} {A B D : Option Addr} {ca cb cd : Nat} (h : PgAt W p A B D ca cb cd) (hb : Below W.heap.size W w) : PgAt w p A B D ca cb cd :=
  ⟨h.fs.imp fun x g o q => q.below hb, h.gs.imp fun x g o q => q.below hb, h.ls.imp fun x g o q => q.below hb, h.m, h.ka, h.kb, h.kd⟩

/-! ### what came in -/
section
variable {H : Type} {enc : TypeId × Value → H} {P : Program} {w : World} {base : Nat} {sp : Nat → Bool} {held : Bool}
theorem wf_i64 {v : Int} (h : (Lit.int .i64 v).wf = true) : i64 v := by
  unfold Lit.wf at h
  rw [Bool.and_eq_true, decide_eq_true_eq, decide_eq_true_eq] at h
  have e : IntKind.i64.max = 9223372036854775807 := by decide
  have e2 : IntKind.i64.min = -9223372036854775808 := by decide
  unfold i64
  have h1 : IntKind.i64.min ≤ v := h.1
  have h2 : v ≤ IntKind.i64.max := h.2
  omega
/-- A slice whose elements open. -/
theorem open_rows {α : Type} {tS tE : TypeId} {k : Nat} (hu : P.underlying tS = some (.slice tE)) (hk : P.cellsOf tE = k) (hk0 : 0 < k) (R : α → Nat → Nat → Prop) (bk : α → Nat)
    (hE : ∀ m cs e, DataW.trod enc P w base sp held m tE cs = some e → ∃ X : α, bk X ≤ Rows.uptoBulk e.1 ∧ ∀ g o, (∀ j, j < k → w.cell? ⟨g, o + j, none⟩ = cs[j]?) → g < w.heap.size → R X g o)
    {n : Nat} {v : Value} {x : DataW H × List MemPlace} (h : DataW.trod enc P w base sp held n tS [v] = some x) :
    ∃ (A : Option Addr) (cap : Nat) (l : List α), v = .slice A l.length cap ∧ l.length ≤ cap ∧ l.length ≤ maxLen ∧ Row k R A l ∧ (l.map bk).sum ≤ Rows.uptoBulk x.1 := by
  rcases DataW.trod_slice hu h with ⟨h0, hx⟩ | ⟨a, len, cap, elems, rest, m, hn, hv, hx, _, hlc, hml, hlen, hel, _, _⟩
  · simp only [List.cons.injEq, and_true] at h0
    exact ⟨none, 0, [], h0, Nat.le_refl _, Nat.zero_le _, .inl rfl, Nat.zero_le _⟩
  · simp only [List.cons.injEq, and_true] at hv
    rw [hk] at hel
    subst hn
    by_cases h0 : len = 0
    · exact ⟨some a, cap, [], by rw [hv, h0]; rfl, Nat.zero_le _, Nat.zero_le _, .inl rfl, Nat.zero_le _⟩
    obtain ⟨g, o, rfl⟩ : ∃ g o, a = ⟨g, o, none⟩ := by
      have h1 := hel 0 (by omega)
      have h2 : elems[0]? = some elems[0] := List.getElem?_eq_getElem (by omega)
      rw [h2] at h1
      obtain ⟨cs', hc, ht⟩ := Option.bind_eq_some_iff.1 h1
      obtain ⟨hlc, _, hat⟩ := World.cells?_some hc
      have h00 := hat 0 (by omega)
      rw [List.getElem?_eq_getElem (by omega)] at h00
      obtain ⟨g, o, spot⟩ := a
      have hspot : spot = none := by simpa [Addr.add] using World.cell?_spot h00
      exact ⟨g, o, by rw [hspot]⟩
    have hadd : ∀ i, (⟨g, o, none⟩ : Addr).add i = ⟨g, o + i, none⟩ := fun i => by unfold Addr.add; split <;> simp_all
    have key : ∀ (l : List (DataW H × List MemPlace)) (i : Nat), (∀ t, t < l.length → (w.cells? base ((⟨g, o, none⟩ : Addr).add ((i + t) * k)) k).bind (DataW.trod enc P w base sp held m tE) = l[t]?) →
        ∃ F : List α, F.length = l.length ∧ (F.map bk).sum ≤ Rows.uptoBulkAll (l.map (·.1)) ∧ ∀ t (ht : t < F.length), R F[t] g (o + (i + t) * k) := by
      intro l
      induction l with
      | nil => intro i _; exact ⟨[], rfl, Nat.zero_le _, fun t ht => by cases ht⟩
      | cons e l ihl =>
        intro i hi
        obtain ⟨F, hF, hFb, hFl⟩ := ihl (i + 1) (fun t ht => by
          have := hi (t + 1) (by simpa using ht)
          rw [show i + 1 + t = i + (t + 1) by omega]
          simpa using this)
        have h1 := hi 0 (by simp)
        simp only [Nat.add_zero, List.getElem?_cons_zero] at h1
        obtain ⟨cs', hc, ht⟩ := Option.bind_eq_some_iff.1 h1
        obtain ⟨X, hb, hR⟩ := hE _ _ _ ht
        obtain ⟨hlc, _, hat⟩ := World.cells?_some hc
        have hat' : ∀ j, j < k → w.cell? ⟨g, o + i * k + j, none⟩ = cs'[j]? := fun j hj => by
          have := hat j hj
          rw [Go.Deep.add_add, hadd, ← Nat.add_assoc] at this
          exact this
        have hg : g < w.heap.size := by
          have h00 := hat' 0 hk0
          rw [List.getElem?_eq_getElem (by omega)] at h00
          exact World.block_lt_of_cell? w _ h00
        refine ⟨X :: F, by simp [hF], by simp only [List.map_cons, List.sum_cons, Rows.uptoBulkAll]; omega, fun t ht => ?_⟩
        cases t with
        | zero => exact hR g _ hat' hg
        | succ t =>
          have := hFl t (by simpa using ht)
          rw [show i + (t + 1) = i + 1 + t by omega]
          exact this
    obtain ⟨F, hF, hFb, hFl⟩ := key elems 0 (fun t ht => by rw [Nat.zero_add]; exact hel t (by omega))
    refine ⟨some ⟨g, o, none⟩, cap, F, by rw [hF, hlen]; exact hv, by omega, by omega, .inr ⟨g, o, rfl, fun i hi => by have := hFl i hi; rw [Nat.zero_add] at this; exact this⟩, ?_⟩
    rw [hx]
    simp only [Rows.uptoBulk]
    omega

variable {w : World} {base : Nat} {sp : Nat → Bool} {held : Bool} {H : Type} {enc : TypeId × Value → H}
theorem u3 : Tryd.prog.underlying 3 = some (.int .i64) := Tryd.underlying3
end
end Go.Proofs.YtekfhgldebhigaaDoor
