/-
  How a slice of tokens that came in is opened.
-/
import Derived.Test.YtaalgkcbknlccaaDoorG
import Derived.Test.YtaalgkcbknlccaaDoorL9
import Derived.Deep.Slices
namespace Go.Proofs.YtaalgkcbknlccaaDoor
open Go.ChangeShapes Go.WideShapes Go.ChangeAt Go.RowKit M Go.Deep

theorem laidOut : laidOutB Tryd.prog = true := by kernel_rfl
theorem cells33 : Tryd.prog.cellsOf 33 = 3 := by kernel_rfl
theorem cells3 : Tryd.prog.cellsOf 3 = 1 := by kernel_rfl

section
variable {H : Type} {enc : TypeId × Value → H} {w : World} {base : Nat} {sp : Nat → Bool} {held : Bool}
theorem open_tok {n : Nat} {cs : List Value} {x : DataW H × List MemPlace} (h : DataW.trod enc Tryd.prog w base sp held n 33 cs = some x) (hl : cs.length = 3) :
    ∃ t : ATok, cs = acell1 t ∧ t.2.1.size ≤ Rows.uptoBulk x.1 := by
  obtain ⟨xs, m, _, hx, _, hlen, hf⟩ := DataW.trod_struct Tryd.underlying33 h
  match cs, hl with
  | [c0, c1, c2], _ =>
    match xs, hlen with
    | [y0, y1, y2], _ =>
      have g0 : DataW.trod enc Tryd.prog w base sp held m 3 [c0] = some y0 := by simpa [cells3] using hf 0 _ rfl
      have g1 : DataW.trod enc Tryd.prog w base sp held m 9 [c1] = some y1 := by simpa [cells9] using hf 1 _ rfl
      have g2 : DataW.trod enc Tryd.prog w base sp held m 3 [c2] = some y2 := by simpa [cells3] using hf 2 _ rfl
      obtain ⟨k, e0, _, _⟩ := DataW.trod_int Tryd.underlying3 g0
      obtain ⟨t, e1, e1', _⟩ := DataW.trod_string Tryd.underlying9 g1
      obtain ⟨a, e2, _, _⟩ := DataW.trod_int Tryd.underlying3 g2
      simp at e0 e1 e2
      subst e0 e1 e2 e1' hx
      refine ⟨(k, t, a), rfl, ?_⟩
      simp [Rows.uptoBulk, Rows.uptoBulkAll]
      omega

theorem bulk_all {D : Nat → DataW H} {f : Nat → Nat} : ∀ n, (∀ i, i < n → f i ≤ Rows.uptoBulk (D i)) → ((List.range n).map f).sum ≤ Rows.uptoBulkAll ((List.range n).map D) := by
  have app : ∀ (l m : List (DataW H)), Rows.uptoBulkAll (l ++ m) = Rows.uptoBulkAll l + Rows.uptoBulkAll m := by
    intro l m
    induction l with
    | nil => simp [Rows.uptoBulkAll]
    | cons d l ih => simp [Rows.uptoBulkAll, ih]; omega
  intro n
  induction n with
  | zero => intro _; simp
  | succ n ih =>
    intro h
    rw [List.range_succ, List.map_append, List.map_append, app, List.sum_append]
    have h1 := ih (fun i hi => h i (by omega))
    have h2 := h n (by omega)
    simp [Rows.uptoBulkAll]
    omega

theorem choose_toks {P : Nat → ATok → Prop} : ∀ n, (∀ i, i < n → ∃ t, P i t) → ∃ l : List ATok, l.length = n ∧ ∀ i (h : i < l.length), P i l[i] := by
  intro n
  induction n with
  | zero => intro _; exact ⟨[], rfl, fun i h => absurd h (by simp)⟩
  | succ n ih =>
    intro h
    obtain ⟨l, hl, hp⟩ := ih (fun i hi => h i (by omega))
    obtain ⟨t, ht⟩ := h n (by omega)
    refine ⟨l ++ [t], by simp [hl], fun i hi => ?_⟩
    by_cases e : i < l.length
    · rw [List.getElem_append_left e]; exact hp i e
    · have : i = n := by simp at hi; omega
      subst this
      rw [List.getElem_append_right (by omega)]
      simpa using ht

/-- A slice of tokens: nil, or tokens that lie from an address on. -/
theorem open_toks {fuel : Nat} {cs : List Value} {x : DataW H × List MemPlace} (h : DataW.trod enc Tryd.prog w base sp held fuel 23 cs = some x) :
    cs = [.slice none 0 0] ∨ ∃ (a : Addr) (cap : Nat) (l : List ATok), cs = [.slice (some a) l.length cap] ∧ l.length ≤ maxLen ∧ total (atexts l) ≤ Rows.uptoBulk x.1 ∧
      (0 < l.length → ∃ g off, a = ⟨g, off, none⟩ ∧ g < w.heap.size ∧ ArgL w g off l) := by
  rcases open_slice Tryd.underlying23 h with ⟨h0, _⟩ | ⟨a, len, cap, m, n, D, Pl, rfl, _, hlc, hcm, hm, hx, hi⟩
  · exact .inl h0
  · right
    rw [cells33] at hi
    have hlm : len ≤ m := by rw [hm]; split <;> omega
    obtain ⟨l, hl, hp⟩ := choose_toks (P := fun i t => w.cells? base (a.add (i * 3)) 3 = some (acell1 t) ∧ t.2.1.size ≤ Rows.uptoBulk (D i)) len (fun i hil => by
      obtain ⟨cs', hc, ht⟩ := hi i (by omega)
      obtain ⟨_, hcl, _⟩ := World.cells?_some hc
      obtain ⟨t, e, hb⟩ := open_tok ht hcl
      exact ⟨t, by rw [hc, e], hb⟩)
    subst hl
    refine ⟨a, cap, l, rfl, by omega, ?_, fun h0 => ?_⟩
    · rw [hx]
      have e : total (atexts l) = ((List.range l.length).map fun i => if h : i < l.length then l[i].2.1.size else 0).sum := by
        unfold total atexts
        congr 1
        apply List.ext_getElem
        · simp
        · intro i h1 h2
          have : i < l.length := by simpa using h1
          simp [this]
      have := bulk_all (D := D) (f := fun i => if h : i < l.length then l[i].2.1.size else 0) l.length (fun i hil => by simp only [hil, dite_true]; exact (hp i hil).2)
      rw [e]
      simp only [Rows.uptoBulk]
      omega
    · have hc0 := (World.cells?_some (hp 0 h0).1).2.2 0 (by omega)
      rw [Go.Deep.add_add] at hc0
      obtain ⟨b, off, spot⟩ := a
      have hspot : spot = none := by simpa [Addr.add] using World.cell?_spot hc0
      subst hspot
      have hadd : ∀ i, (⟨b, off, none⟩ : Addr).add i = ⟨b, off + i, none⟩ := fun i => by unfold Addr.add; split <;> simp_all
      refine ⟨b, off, rfl, ?_, fun j u hj => ?_⟩
      · have := World.block_lt_of_cell? w _ hc0
        simpa [hadd] using this
      · have hjl : j < l.length * 3 := by rw [← acells_length]; exact (List.getElem?_eq_some_iff.1 hj).1
        obtain ⟨q, r, hq, hr, rfl⟩ : ∃ q r, q < l.length ∧ r < 3 ∧ j = q * 3 + r := ⟨j / 3, j % 3, by omega, by omega, by omega⟩
        have hc := (World.cells?_some (hp q hq).1).2.2 r hr
        rw [Go.Deep.add_add, hadd] at hc
        rw [hc, ← hj]
        obtain ⟨a0, a1, a2⟩ := acells_get l q hq
        have hr3 : r = 0 ∨ r = 1 ∨ r = 2 := by omega
        rcases hr3 with rfl | rfl | rfl
        · rw [Nat.add_zero, a0]; simp [acell1]
        · rw [a1]; simp [acell1]
        · rw [a2]; simp [acell1]
end
end Go.Proofs.YtaalgkcbknlccaaDoor
