/-
  Trees in memory: a row of nodes lies from an address on. No program text is reached here.
  How a tree that came in is opened.
  How a tree that came in is opened; its texts have a length that a string can have.
-/
import Derived.Test.YticbcnhbpbaocaaGreatDoorTA
import Derived.Laws.AppendOwn
import Derived.Laws.OwnMore
import Derived.Test.YticbcnhbpbaocaaGreatDoorRows
import Derived.ChangeSame
import Derived.Deep.Slices
import Derived.OpenShut

set_option linter.all false
namespace Go.Proofs.YticbcnhbpbaocaaGreatDoor
open Go.RowKit T T.Fo

/-- A node's cells: its head and the slice of its children. -/
def hc (h : Hd) (A : Option Addr) (n cap : Nat) : List Value :=
  [.int .i64 h.kind, .string h.text, .int .i64 h.num, .int .i64 h.pos, .slice A n cap, .int .i64 h.tk, .string h.tn, .int .i64 h.ref, .int .i64 h.up]
/-- A node as a value. -/
abbrev nv (h : Hd) (A : Option Addr) (n cap : Nat) : Value :=
  .agg #[.int .i64 h.kind, .string h.text, .int .i64 h.num, .int .i64 h.pos, .slice A n cap, .int .i64 h.tk, .string h.tn, .int .i64 h.ref, .int .i64 h.up]

/-- The nine cells at an address. -/
structure At9 (w : World) (g o : Nat) (h : Hd) (A : Option Addr) (n cap : Nat) : Prop where
  c0 : w.cell? ⟨g, o, none⟩ = some (.int .i64 h.kind)
  c1 : w.cell? ⟨g, o + 1, none⟩ = some (.string h.text)
  c2 : w.cell? ⟨g, o + 2, none⟩ = some (.int .i64 h.num)
  c3 : w.cell? ⟨g, o + 3, none⟩ = some (.int .i64 h.pos)
  c4 : w.cell? ⟨g, o + 4, none⟩ = some (.slice A n cap)
  c5 : w.cell? ⟨g, o + 5, none⟩ = some (.int .i64 h.tk)
  c6 : w.cell? ⟨g, o + 6, none⟩ = some (.string h.tn)
  c7 : w.cell? ⟨g, o + 7, none⟩ = some (.int .i64 h.ref)
  c8 : w.cell? ⟨g, o + 8, none⟩ = some (.int .i64 h.up)

/-- The row F lies in w from place o of block g on, all in blocks of S. -/
def LiesF (S : Nat → Prop) (w : World) : Fo → Nat → Nat → Prop
  | .nil, _, _ => True
  | .cons h k r, g, o => ∃ (A : Option Addr) (cap : Nat), S g ∧ k.len ≤ cap ∧ At9 w g o h A k.len cap ∧ (k = .nil ∨ ∃ g' o', A = some ⟨g', o', none⟩ ∧ LiesF S w k g' o') ∧ LiesF S w r g (o + 9)
/-- What a slice of children leads to. -/
def Kids (S : Nat → Prop) (w : World) (A : Option Addr) (k : Fo) : Prop := k = .nil ∨ ∃ g o, A = some ⟨g, o, none⟩ ∧ LiesF S w k g o

theorem At9.carry {w w' : World} {g o : Nat} {h : Hd} {A : Option Addr} {n cap : Nat} (H : At9 w g o h A n cap) (hb : w'.heap[g]? = w.heap[g]?) : At9 w' g o h A n cap := by
  have e : ∀ i, w'.cell? ⟨g, i, none⟩ = w.cell? ⟨g, i, none⟩ := fun i => World.cell?_of_block (a := ⟨g, i, none⟩) hb
  exact ⟨(e _).trans H.c0, (e _).trans H.c1, (e _).trans H.c2, (e _).trans H.c3, (e _).trans H.c4, (e _).trans H.c5, (e _).trans H.c6, (e _).trans H.c7, (e _).trans H.c8⟩
theorem LiesF.carry {S S' : Nat → Prop} {w w' : World} (H : ∀ b, S b → S' b ∧ w'.heap[b]? = w.heap[b]?) : ∀ {F : Fo} {g o : Nat}, LiesF S w F g o → LiesF S' w' F g o := by
  intro F
  induction F with
  | nil => intro _ _ _; trivial
  | cons h k r ihk ihr =>
    rintro g o ⟨A, cap, hS, hcap, h9, hk, hr⟩
    refine ⟨A, cap, (H g hS).1, hcap, h9.carry (H g hS).2, ?_, ihr hr⟩
    rcases hk with hk | ⟨g', o', hA, hk⟩
    · exact .inl hk
    · exact .inr ⟨g', o', hA, ihk hk⟩
theorem Kids.carry {S S' : Nat → Prop} {w w' : World} {A : Option Addr} {k : Fo} (h : Kids S w A k) (H : ∀ b, S b → S' b ∧ w'.heap[b]? = w.heap[b]?) : Kids S' w' A k := by
  rcases h with h | ⟨g, o, hA, h⟩
  · exact .inl h
  · exact .inr ⟨g, o, hA, h.carry H⟩

/-- Below B. -/
abbrev Lt (B : Nat) : Nat → Prop := fun b => b < B
theorem Kids.below {B B' : Nat} {w w' : World} {A : Option Addr} {k : Fo} (h : Kids (Lt B) w A k) (hb : Below B' w w') (hB : B ≤ B') : Kids (Lt B) w' A k :=
  h.carry fun b hS => ⟨hS, hb.block b (Nat.lt_of_lt_of_le hS hB)⟩
theorem LiesF.below {B B' : Nat} {w w' : World} {F : Fo} {g o : Nat} (h : LiesF (Lt B) w F g o) (hb : Below B' w w') (hB : B ≤ B') : LiesF (Lt B) w' F g o :=
  h.carry fun b hS => ⟨hS, hb.block b (Nat.lt_of_lt_of_le hS hB)⟩
theorem Kids.mono {B B' : Nat} {w : World} {A : Option Addr} {k : Fo} (h : Kids (Lt B) w A k) (hB : B ≤ B') : Kids (Lt B') w A k :=
  h.carry fun b hS => ⟨Nat.lt_of_lt_of_le hS hB, rfl⟩
theorem Kids.cons {S : Nat → Prop} {w : World} {A : Option Addr} {h : Hd} {k r : Fo} (H : Kids S w A (.cons h k r)) : ∃ g o, A = some ⟨g, o, none⟩ ∧ LiesF S w (.cons h k r) g o := by
  rcases H with H | H
  · cases H
  · exact H
theorem kids_nil (S : Nat → Prop) (w : World) (A : Option Addr) : Kids S w A .nil := .inl rfl

/-! ### A row of the call's own -/

/-- A node that has been made: its head, its children, where they lie. -/
structure El where
  h : Hd
  k : Fo
  A : Option Addr
  cap : Nat
def El.cells (e : El) : List Value := hc e.h e.A e.k.len e.cap
def ecells (l : List El) : List Value := l.flatMap El.cells
def fo : List El → Fo
  | [] => .nil
  | e :: l => .cons e.h e.k (fo l)
theorem fo_app (a b : List El) : fo (a ++ b) = (fo a).app (fo b) := by
  induction a with
  | nil => rfl
  | cons x a ih => simp [fo, app, ih]
theorem fo_len (a : List El) : (fo a).len = a.length := by
  induction a with
  | nil => rfl
  | cons x a ih => simp [fo, len, ih]
theorem ecells_snoc (l : List El) (e : El) : ecells (l ++ [e]) = ecells l ++ e.cells := by simp [ecells]
theorem ecells_len (l : List El) : (ecells l).length = l.length * 9 := by
  induction l with
  | nil => rfl
  | cons x l ih => simp [ecells, El.cells, hc] at *; omega

/-- Each element's children lie in S. -/
def Els (S : Nat → Prop) (w : World) (l : List El) : Prop := ∀ e ∈ l, e.k.len ≤ e.cap ∧ Kids S w e.A e.k
theorem Els.carry {S S' : Nat → Prop} {w w' : World} {l : List El} (h : Els S w l) (H : ∀ b, S b → S' b ∧ w'.heap[b]? = w.heap[b]?) : Els S' w' l := fun e he => ⟨(h e he).1, (h e he).2.carry H⟩
theorem Els.snoc {S : Nat → Prop} {w : World} {l : List El} {e : El} (h : Els S w l) (hc : e.k.len ≤ e.cap) (he : Kids S w e.A e.k) : Els S w (l ++ [e]) := fun x hx => by
  rcases List.mem_append.1 hx with hx | hx
  · exact h x hx
  · rw [List.mem_singleton] at hx
    subst hx
    exact ⟨hc, he⟩

theorem lies_of_cells {S : Nat → Prop} {w : World} {g : Nat} (hg : S g) : ∀ (l : List El) (o : Nat), Els S w l → (∀ (j : Nat) v, (ecells l)[j]? = some v → w.cell? ⟨g, o + j, none⟩ = some v) → LiesF S w (fo l) g o := by
  intro l
  induction l with
  | nil => intro o _ _; trivial
  | cons e l ih =>
    intro o he hc'
    have e0 : ecells (e :: l) = hc e.h e.A e.k.len e.cap ++ ecells l := rfl
    rw [e0] at hc'
    obtain ⟨h1, h2⟩ := he e (List.mem_cons_self ..)
    refine ⟨e.A, e.cap, hg, h1, ⟨?_, ?_, ?_, ?_, ?_, ?_, ?_, ?_, ?_⟩, h2, ih (o + 9) (fun x hx => he x (List.mem_cons_of_mem _ hx)) (fun j v hj => ?_)⟩
    · exact hc' 0 _ rfl
    · exact hc' 1 _ rfl
    · exact hc' 2 _ rfl
    · exact hc' 3 _ rfl
    · exact hc' 4 _ rfl
    · exact hc' 5 _ rfl
    · exact hc' 6 _ rfl
    · exact hc' 7 _ rfl
    · exact hc' 8 _ rfl
    · have := hc' (9 + j) v (by rw [List.getElem?_append_right (by simp [hc])]; simpa [hc] using hj)
      rw [Nat.add_assoc]
      exact this

theorem own_cells {w : World} {base e g n cap size : Nat} {xs : List Value} (h : w.ownsRow base e size (.slice (some ⟨g, 0, none⟩) n cap) n xs) (j : Nat) (v : Value) (hj : xs[j]? = some v) : w.cell? ⟨g, j, none⟩ = some v := by
  have := h.cells (g := g) rfl j v hj
  have hadd : (⟨g, 0, none⟩ : Addr).add j = ⟨g, j, none⟩ := by unfold Addr.add; split <;> simp_all
  rw [hadd] at this
  exact this
/-- A row that the call owns is a row of trees. -/
theorem kids_of_row {S : Nat → Prop} {w : World} {base t n cap : Nat} {A : Option Addr} {l : List El} (h : w.ownsRow base t 9 (.slice A n cap) n (ecells l)) (he : Els S w l) (hS : ∀ g, (Value.slice A n cap).ownBlock = some g → S g) : n = l.length ∧ Kids S w A (fo l) := by
  have hn : n = l.length := by have := h.1; rw [ecells_len] at this; omega
  refine ⟨hn, ?_⟩
  rcases h.2 with ⟨hv, h0⟩ | ⟨g, c, cur, hv, _⟩
  · left
    have : l = [] := List.eq_nil_of_length_eq_zero (by omega)
    rw [this]; rfl
  · injection hv with e1 e2 e3
    subst e1
    refine .inr ⟨g, 0, rfl, lies_of_cells (hS g rfl) l 0 he fun j v hj => ?_⟩
    rw [Nat.zero_add]
    exact own_cells h j v hj
end Go.Proofs.YticbcnhbpbaocaaGreatDoor

namespace Go.Proofs.YticbcnhbpbaocaaGreatDoor
open Go.ChangeShapes Go.WideShapes Go.RowKit Go.Deep T T.Fo
set_option maxRecDepth 10000

theorem cells26 : Tryz.prog.cellsOf 26 = 9 := by kernel_rfl
theorem cells24 : Tryz.prog.cellsOf 24 = 2 := by kernel_rfl
theorem cells22 : Tryz.prog.cellsOf 22 = 1 := by kernel_rfl
theorem cells9 : Tryz.prog.cellsOf 9 = 1 := by kernel_rfl
theorem cells3 : Tryz.prog.cellsOf 3 = 1 := by kernel_rfl
/-- Num is a number of 64 bits. -/
def numIn (h : Hd) : Prop := (Lit.int .i64 h.num).wf = true

section
variable {H : Type} {enc : TypeId × Value → H} {w : World} {base : Nat} {sp : Nat → Bool} {held : Bool}
theorem bulk_app (l m : List (DataW H)) : Rows.uptoBulkAll (l ++ m) = Rows.uptoBulkAll l + Rows.uptoBulkAll m := by
  induction l with
  | nil => simp [Rows.uptoBulkAll]
  | cons d l ih => simp [Rows.uptoBulkAll, ih]; omega

/-- A node: its head, the slice of its children, which reads with less fuel. -/
theorem open_node {n : Nat} {cs : List Value} {x : DataW H × List MemPlace} (h : DataW.trod enc Tryz.prog w base sp held n 26 cs = some x) :
    ∃ (hd : Hd) (v : Value) (y : DataW H × List MemPlace) (m : Nat), n = m + 1 ∧ cs = [.int .i64 hd.kind, .string hd.text, .int .i64 hd.num, .int .i64 hd.pos, v, .int .i64 hd.tk, .string hd.tn, .int .i64 hd.ref, .int .i64 hd.up] ∧
      numIn hd ∧ DataW.trod enc Tryz.prog w base sp held m 22 [v] = some y ∧ Rows.uptoBulk y.1 + 1 ≤ Rows.uptoBulk x.1 := by
  obtain ⟨xs, m, hn, hx, hcl, hlen, hf⟩ := DataW.trod_struct Tryz.underlying26 h
  rw [cells26] at hcl
  match cs, hcl with
  | [c0, c1, c2, c3, c4, c5, c6, c7, c8], _ =>
    match xs, hlen with
    | [y0, y1, y2, y3, y4, y5, y6, y7], _ =>
      have g0 : DataW.trod enc Tryz.prog w base sp held m 3 [c0] = some y0 := by simpa [cells3] using hf 0 _ rfl
      have g1 : DataW.trod enc Tryz.prog w base sp held m 9 [c1] = some y1 := by simpa [cells9] using hf 1 _ rfl
      have g2 : DataW.trod enc Tryz.prog w base sp held m 3 [c2] = some y2 := by simpa [cells3] using hf 2 _ rfl
      have g3 : DataW.trod enc Tryz.prog w base sp held m 3 [c3] = some y3 := by simpa [cells3] using hf 3 _ rfl
      have g4 : DataW.trod enc Tryz.prog w base sp held m 22 [c4] = some y4 := by simpa [cells22] using hf 4 _ rfl
      have g5 : DataW.trod enc Tryz.prog w base sp held m 24 [c5, c6] = some y5 := by simpa [cells24] using hf 5 _ rfl
      have g6 : DataW.trod enc Tryz.prog w base sp held m 3 [c7] = some y6 := by simpa [cells3] using hf 6 _ rfl
      have g7 : DataW.trod enc Tryz.prog w base sp held m 3 [c8] = some y7 := by simpa [cells3] using hf 7 _ rfl
      obtain ⟨k0, e0, _, _⟩ := DataW.trod_int Tryz.underlying3 g0
      obtain ⟨k1, e1, _, _⟩ := DataW.trod_string Tryz.underlying9 g1
      obtain ⟨k2, e2, _, hw2⟩ := DataW.trod_int Tryz.underlying3 g2
      obtain ⟨k3, e3, _, _⟩ := DataW.trod_int Tryz.underlying3 g3
      obtain ⟨k6, e6, _, _⟩ := DataW.trod_int Tryz.underlying3 g6
      obtain ⟨k7, e7, _, _⟩ := DataW.trod_int Tryz.underlying3 g7
      obtain ⟨zs, m', _, _, _, hzl, hz⟩ := DataW.trod_struct Tryz.underlying24 g5
      match zs, hzl with
      | [z0, z1], _ =>
        have f0 : DataW.trod enc Tryz.prog w base sp held m' 3 [c5] = some z0 := by simpa [cells3] using hz 0 _ rfl
        have f1 : DataW.trod enc Tryz.prog w base sp held m' 9 [c6] = some z1 := by simpa [cells9] using hz 1 _ rfl
        obtain ⟨k5, e5, _, _⟩ := DataW.trod_int Tryz.underlying3 f0
        obtain ⟨k8, e8, _, _⟩ := DataW.trod_string Tryz.underlying9 f1
        simp only [List.cons.injEq, and_true] at e0 e1 e2 e3 e5 e6 e7 e8
        subst e0 e1 e2 e3 e5 e6 e7 e8
        refine ⟨⟨k0, k1, k2, k3, k5, k8, k6, k7⟩, c4, y4, m, hn, rfl, hw2, g4, ?_⟩
        rw [hx]
        simp [Rows.uptoBulk, Rows.uptoBulkAll]
        omega

/-- The children. -/
theorem open_kids : ∀ (n : Nat) (v : Value) (x : DataW H × List MemPlace), DataW.trod enc Tryz.prog w base sp held n 22 [v] = some x →
    ∃ (A : Option Addr) (cap : Nat) (F : Fo), v = .slice A F.len cap ∧ F.len ≤ cap ∧ Kids (Lt w.heap.size) w A F ∧ F.AllH numIn ∧ F.cnt ≤ Rows.uptoBulk x.1 := by
  intro n
  induction n using Nat.strongRecOn with
  | _ n ih =>
    intro v x h
    rcases DataW.trod_slice Tryz.underlying22 h with ⟨h0, hx⟩ | ⟨a, len, cap, elems, rest, m, hn, hv, hx, _, hlc, _, hlen, hel, _, _⟩
    · simp only [List.cons.injEq, and_true] at h0
      exact ⟨none, 0, .nil, h0, Nat.le_refl _, .inl rfl, trivial, Nat.zero_le _⟩
    · simp only [List.cons.injEq, and_true] at hv
      rw [cells26] at hel
      subst hn
      by_cases h0 : len = 0
      · refine ⟨some a, cap, .nil, by rw [hv, h0]; rfl, Nat.zero_le _, .inl rfl, trivial, Nat.zero_le _⟩
      obtain ⟨g, o, rfl⟩ : ∃ g o, a = ⟨g, o, none⟩ := by
        have h1 := hel 0 (by omega)
        have h2 : elems[0]? = some elems[0] := List.getElem?_eq_getElem (by omega)
        rw [h2] at h1
        obtain ⟨cs', hc, ht⟩ := Option.bind_eq_some_iff.1 h1
        obtain ⟨hd, v', y, m', hm', hcs, hnum, hy, hbk⟩ := open_node ht
        obtain ⟨_, _, hat⟩ := World.cells?_some hc
        have h00 := hat 0 (by omega)
        rw [Go.Deep.add_add, hcs, List.getElem?_cons_zero] at h00
        obtain ⟨g, o, spot⟩ := a
        have hspot : spot = none := by simpa [Addr.add] using World.cell?_spot h00
        exact ⟨g, o, by rw [hspot]⟩
      have hadd : ∀ i, (⟨g, o, none⟩ : Addr).add i = ⟨g, o + i, none⟩ := fun i => by unfold Addr.add; split <;> simp_all
      have key : ∀ (l : List (DataW H × List MemPlace)) (i : Nat), (∀ t, t < l.length → (w.cells? base ((⟨g, o, none⟩ : Addr).add ((i + t) * 9)) 9).bind (DataW.trod enc Tryz.prog w base sp held m 26) = l[t]?) →
          ∃ F : Fo, F.len = l.length ∧ F.AllH numIn ∧ F.cnt ≤ Rows.uptoBulkAll (l.map (·.1)) ∧ LiesF (Lt w.heap.size) w F g (o + i * 9) := by
        intro l
        induction l with
        | nil => intro i _; exact ⟨.nil, rfl, trivial, Nat.zero_le _, trivial⟩
        | cons e l ihl =>
          intro i hi
          obtain ⟨F, hF, hFA, hFc, hFl⟩ := ihl (i + 1) (fun t ht => by
            have := hi (t + 1) (by simpa using ht)
            rw [show i + 1 + t = i + (t + 1) by omega]
            simpa using this)
          have h1 := hi 0 (by simp)
          simp only [Nat.add_zero, List.getElem?_cons_zero] at h1
          obtain ⟨cs', hc, ht⟩ := Option.bind_eq_some_iff.1 h1
          obtain ⟨hd, v', y, m', hm', hcs, hnum, hy, hbk⟩ := open_node ht
          obtain ⟨A', cap', k, hv', hkc, hkids, hkA, hkb⟩ := ih m' (by omega) v' y hy
          subst hv'
          obtain ⟨_, _, hat⟩ := World.cells?_some hc
          have hat' : ∀ j, j < 9 → w.cell? ⟨g, o + i * 9 + j, none⟩ = cs'[j]? := fun j hj => by
            have := hat j hj
            rw [Go.Deep.add_add, hadd, ← Nat.add_assoc] at this
            exact this
          subst hcs
          have hg : g < w.heap.size := by
            have := World.block_lt_of_cell? w _ (hat' 0 (by omega))
            exact this
          refine ⟨.cons hd k F, by simp [Fo.len, hF], ⟨hnum, hkA, hFA⟩, ?_, A', cap', hg, hkc, ⟨hat' 0 (by omega), hat' 1 (by omega), hat' 2 (by omega), hat' 3 (by omega), hat' 4 (by omega), hat' 5 (by omega), hat' 6 (by omega), hat' 7 (by omega), hat' 8 (by omega)⟩, hkids, ?_⟩
          · simp only [Fo.cnt, List.map_cons, Rows.uptoBulkAll]
            omega
          · rw [show o + i * 9 + 9 = o + (i + 1) * 9 by omega]
            exact hFl
      obtain ⟨F, hF, hFA, hFc, hFl⟩ := key elems 0 (fun t ht => by rw [Nat.zero_add]; exact hel t (by omega))
      refine ⟨some ⟨g, o, none⟩, cap, F, by rw [hF, hlen]; exact hv, by omega, .inr ⟨g, o, rfl, by simpa using hFl⟩, hFA, ?_⟩
      rw [hx]
      simp only [Rows.uptoBulk]
      omega

/-- A tree that came in by value. -/
theorem open_tree {r : Reach} {b0 : Nat} {v : Value} {d : DataW H} {p : List MemPlace} (hv : Value.okWide Tryz.prog w r b0 26 v) (h : DataW.Trod enc Tryz.prog w base sp held 26 v d p) :
    ∃ (hd : Hd) (A : Option Addr) (cap : Nat) (F : Fo), v = nv hd A F.len cap ∧ F.len ≤ cap ∧ Kids (Lt w.heap.size) w A F ∧ numIn hd ∧ F.AllH numIn ∧ F.cnt + 1 ≤ Rows.uptoBulk d := by
  obtain ⟨cs, rfl, hsz⟩ := okWide_struct Tryz.underlying26 hv
  obtain ⟨fuel, hf⟩ := h
  obtain ⟨hd, v', y, m, _, hcs, hnum, hy, hbk⟩ := open_node hf
  obtain ⟨A, cap, F, hv', hc, hk, hA, hb⟩ := open_kids m v' y hy
  subst hv'
  refine ⟨hd, A, cap, F, ?_, hc, hk, hnum, hA, by simp only at hbk; omega⟩
  have : cs = #[.int .i64 hd.kind, .string hd.text, .int .i64 hd.num, .int .i64 hd.pos, .slice A F.len cap, .int .i64 hd.tk, .string hd.tn, .int .i64 hd.ref, .int .i64 hd.up] := by
    apply Array.toList_inj.1
    simpa [Value.cells] using hcs
  rw [this]
end
end Go.Proofs.YticbcnhbpbaocaaGreatDoor

namespace Go.Proofs.YticbcnhbpbaocaaGreatDoor
open Go.ChangeShapes Go.WideShapes Go.RowKit Go.Deep T T.Fo
set_option maxRecDepth 10000

/-- Num is a number of 64 bits, the text is no longer than a string can be. -/
def numIx (h : Hd) : Prop := (Lit.int .i64 h.num).wf = true ∧ h.text.size ≤ maxLen

section
variable {H : Type} {enc : TypeId × Value → H} {w : World} {base : Nat} {sp : Nat → Bool} {held : Bool}
theorem bulk_appx (l m : List (DataW H)) : Rows.uptoBulkAll (l ++ m) = Rows.uptoBulkAll l + Rows.uptoBulkAll m := by
  induction l with
  | nil => simp [Rows.uptoBulkAll]
  | cons d l ih => simp [Rows.uptoBulkAll, ih]; omega

/-- A node: its head, the slice of its children, which reads with less fuel. -/
theorem open_nodex {n : Nat} {cs : List Value} {x : DataW H × List MemPlace} (h : DataW.trod enc Tryz.prog w base sp held n 26 cs = some x) :
    ∃ (hd : Hd) (v : Value) (y : DataW H × List MemPlace) (m : Nat), n = m + 1 ∧ cs = [.int .i64 hd.kind, .string hd.text, .int .i64 hd.num, .int .i64 hd.pos, v, .int .i64 hd.tk, .string hd.tn, .int .i64 hd.ref, .int .i64 hd.up] ∧
      numIx hd ∧ DataW.trod enc Tryz.prog w base sp held m 22 [v] = some y ∧ Rows.uptoBulk y.1 + 1 ≤ Rows.uptoBulk x.1 := by
  obtain ⟨xs, m, hn, hx, hcl, hlen, hf⟩ := DataW.trod_struct Tryz.underlying26 h
  rw [cells26] at hcl
  match cs, hcl with
  | [c0, c1, c2, c3, c4, c5, c6, c7, c8], _ =>
    match xs, hlen with
    | [y0, y1, y2, y3, y4, y5, y6, y7], _ =>
      have g0 : DataW.trod enc Tryz.prog w base sp held m 3 [c0] = some y0 := by simpa [cells3] using hf 0 _ rfl
      have g1 : DataW.trod enc Tryz.prog w base sp held m 9 [c1] = some y1 := by simpa [cells9] using hf 1 _ rfl
      have g2 : DataW.trod enc Tryz.prog w base sp held m 3 [c2] = some y2 := by simpa [cells3] using hf 2 _ rfl
      have g3 : DataW.trod enc Tryz.prog w base sp held m 3 [c3] = some y3 := by simpa [cells3] using hf 3 _ rfl
      have g4 : DataW.trod enc Tryz.prog w base sp held m 22 [c4] = some y4 := by simpa [cells22] using hf 4 _ rfl
      have g5 : DataW.trod enc Tryz.prog w base sp held m 24 [c5, c6] = some y5 := by simpa [cells24] using hf 5 _ rfl
      have g6 : DataW.trod enc Tryz.prog w base sp held m 3 [c7] = some y6 := by simpa [cells3] using hf 6 _ rfl
      have g7 : DataW.trod enc Tryz.prog w base sp held m 3 [c8] = some y7 := by simpa [cells3] using hf 7 _ rfl
      obtain ⟨k0, e0, _, _⟩ := DataW.trod_int Tryz.underlying3 g0
      obtain ⟨k1, e1, _, hs1⟩ := DataW.trod_string Tryz.underlying9 g1
      obtain ⟨k2, e2, _, hw2⟩ := DataW.trod_int Tryz.underlying3 g2
      obtain ⟨k3, e3, _, _⟩ := DataW.trod_int Tryz.underlying3 g3
      obtain ⟨k6, e6, _, _⟩ := DataW.trod_int Tryz.underlying3 g6
      obtain ⟨k7, e7, _, _⟩ := DataW.trod_int Tryz.underlying3 g7
      obtain ⟨zs, m', _, _, _, hzl, hz⟩ := DataW.trod_struct Tryz.underlying24 g5
      match zs, hzl with
      | [z0, z1], _ =>
        have f0 : DataW.trod enc Tryz.prog w base sp held m' 3 [c5] = some z0 := by simpa [cells3] using hz 0 _ rfl
        have f1 : DataW.trod enc Tryz.prog w base sp held m' 9 [c6] = some z1 := by simpa [cells9] using hz 1 _ rfl
        obtain ⟨k5, e5, _, _⟩ := DataW.trod_int Tryz.underlying3 f0
        obtain ⟨k8, e8, _, _⟩ := DataW.trod_string Tryz.underlying9 f1
        simp only [List.cons.injEq, and_true] at e0 e1 e2 e3 e5 e6 e7 e8
        subst e0 e1 e2 e3 e5 e6 e7 e8
        refine ⟨⟨k0, k1, k2, k3, k5, k8, k6, k7⟩, c4, y4, m, hn, rfl, ⟨hw2, hs1⟩, g4, ?_⟩
        rw [hx]
        simp [Rows.uptoBulk, Rows.uptoBulkAll]
        omega

/-- The children. -/
theorem open_kidsx : ∀ (n : Nat) (v : Value) (x : DataW H × List MemPlace), DataW.trod enc Tryz.prog w base sp held n 22 [v] = some x →
    ∃ (A : Option Addr) (cap : Nat) (F : Fo), v = .slice A F.len cap ∧ F.len ≤ cap ∧ Kids (Lt w.heap.size) w A F ∧ F.AllH numIx ∧ F.cnt ≤ Rows.uptoBulk x.1 := by
  intro n
  induction n using Nat.strongRecOn with
  | _ n ih =>
    intro v x h
    rcases DataW.trod_slice Tryz.underlying22 h with ⟨h0, hx⟩ | ⟨a, len, cap, elems, rest, m, hn, hv, hx, _, hlc, _, hlen, hel, _, _⟩
    · simp only [List.cons.injEq, and_true] at h0
      exact ⟨none, 0, .nil, h0, Nat.le_refl _, .inl rfl, trivial, Nat.zero_le _⟩
    · simp only [List.cons.injEq, and_true] at hv
      rw [cells26] at hel
      subst hn
      by_cases h0 : len = 0
      · refine ⟨some a, cap, .nil, by rw [hv, h0]; rfl, Nat.zero_le _, .inl rfl, trivial, Nat.zero_le _⟩
      obtain ⟨g, o, rfl⟩ : ∃ g o, a = ⟨g, o, none⟩ := by
        have h1 := hel 0 (by omega)
        have h2 : elems[0]? = some elems[0] := List.getElem?_eq_getElem (by omega)
        rw [h2] at h1
        obtain ⟨cs', hc, ht⟩ := Option.bind_eq_some_iff.1 h1
        obtain ⟨hd, v', y, m', hm', hcs, hnum, hy, hbk⟩ := open_nodex ht
        obtain ⟨_, _, hat⟩ := World.cells?_some hc
        have h00 := hat 0 (by omega)
        rw [Go.Deep.add_add, hcs, List.getElem?_cons_zero] at h00
        obtain ⟨g, o, spot⟩ := a
        have hspot : spot = none := by simpa [Addr.add] using World.cell?_spot h00
        exact ⟨g, o, by rw [hspot]⟩
      have hadd : ∀ i, (⟨g, o, none⟩ : Addr).add i = ⟨g, o + i, none⟩ := fun i => by unfold Addr.add; split <;> simp_all
      have key : ∀ (l : List (DataW H × List MemPlace)) (i : Nat), (∀ t, t < l.length → (w.cells? base ((⟨g, o, none⟩ : Addr).add ((i + t) * 9)) 9).bind (DataW.trod enc Tryz.prog w base sp held m 26) = l[t]?) →
          ∃ F : Fo, F.len = l.length ∧ F.AllH numIx ∧ F.cnt ≤ Rows.uptoBulkAll (l.map (·.1)) ∧ LiesF (Lt w.heap.size) w F g (o + i * 9) := by
        intro l
        induction l with
        | nil => intro i _; exact ⟨.nil, rfl, trivial, Nat.zero_le _, trivial⟩
        | cons e l ihl =>
          intro i hi
          obtain ⟨F, hF, hFA, hFc, hFl⟩ := ihl (i + 1) (fun t ht => by
            have := hi (t + 1) (by simpa using ht)
            rw [show i + 1 + t = i + (t + 1) by omega]
            simpa using this)
          have h1 := hi 0 (by simp)
          simp only [Nat.add_zero, List.getElem?_cons_zero] at h1
          obtain ⟨cs', hc, ht⟩ := Option.bind_eq_some_iff.1 h1
          obtain ⟨hd, v', y, m', hm', hcs, hnum, hy, hbk⟩ := open_nodex ht
          obtain ⟨A', cap', k, hv', hkc, hkids, hkA, hkb⟩ := ih m' (by omega) v' y hy
          subst hv'
          obtain ⟨_, _, hat⟩ := World.cells?_some hc
          have hat' : ∀ j, j < 9 → w.cell? ⟨g, o + i * 9 + j, none⟩ = cs'[j]? := fun j hj => by
            have := hat j hj
            rw [Go.Deep.add_add, hadd, ← Nat.add_assoc] at this
            exact this
          subst hcs
          have hg : g < w.heap.size := by
            have := World.block_lt_of_cell? w _ (hat' 0 (by omega))
            exact this
          refine ⟨.cons hd k F, by simp [Fo.len, hF], ⟨hnum, hkA, hFA⟩, ?_, A', cap', hg, hkc, ⟨hat' 0 (by omega), hat' 1 (by omega), hat' 2 (by omega), hat' 3 (by omega), hat' 4 (by omega), hat' 5 (by omega), hat' 6 (by omega), hat' 7 (by omega), hat' 8 (by omega)⟩, hkids, ?_⟩
          · simp only [Fo.cnt, List.map_cons, Rows.uptoBulkAll]
            omega
          · rw [show o + i * 9 + 9 = o + (i + 1) * 9 by omega]
            exact hFl
      obtain ⟨F, hF, hFA, hFc, hFl⟩ := key elems 0 (fun t ht => by rw [Nat.zero_add]; exact hel t (by omega))
      refine ⟨some ⟨g, o, none⟩, cap, F, by rw [hF, hlen]; exact hv, by omega, .inr ⟨g, o, rfl, by simpa using hFl⟩, hFA, ?_⟩
      rw [hx]
      simp only [Rows.uptoBulk]
      omega

/-- A tree that came in by value. -/
theorem open_treex {r : Reach} {b0 : Nat} {v : Value} {d : DataW H} {p : List MemPlace} (hv : Value.okWide Tryz.prog w r b0 26 v) (h : DataW.Trod enc Tryz.prog w base sp held 26 v d p) :
    ∃ (hd : Hd) (A : Option Addr) (cap : Nat) (F : Fo), v = nv hd A F.len cap ∧ F.len ≤ cap ∧ Kids (Lt w.heap.size) w A F ∧ numIx hd ∧ F.AllH numIx ∧ F.cnt + 1 ≤ Rows.uptoBulk d := by
  obtain ⟨cs, rfl, hsz⟩ := okWide_struct Tryz.underlying26 hv
  obtain ⟨fuel, hf⟩ := h
  obtain ⟨hd, v', y, m, _, hcs, hnum, hy, hbk⟩ := open_nodex hf
  obtain ⟨A, cap, F, hv', hc, hk, hA, hb⟩ := open_kidsx m v' y hy
  subst hv'
  refine ⟨hd, A, cap, F, ?_, hc, hk, hnum, hA, by simp only at hbk; omega⟩
  have : cs = #[.int .i64 hd.kind, .string hd.text, .int .i64 hd.num, .int .i64 hd.pos, .slice A F.len cap, .int .i64 hd.tk, .string hd.tn, .int .i64 hd.ref, .int .i64 hd.up] := by
    apply Array.toList_inj.1
    simpa [Value.cells] using hcs
  rw [this]
end
end Go.Proofs.YticbcnhbpbaocaaGreatDoor
