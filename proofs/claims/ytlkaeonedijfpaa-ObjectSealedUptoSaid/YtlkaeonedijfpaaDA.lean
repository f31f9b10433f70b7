/-
  The walks of the program's consecutive, sources, destinations.
-/
import Derived.Test.YtlkaeonedijfpaaCJ
set_option linter.all false
namespace Go.Proofs.Ytlkaeonedijfpaa
open Go.RowKit C
/-- The boxes of a program and of an instruction stand. -/
def BPX (p : Pg) (A B D : Option Addr) (ca cb cd : Nat) (x : In) (w w' : World) : Prop := w'.cell? ⟨w.heap.size, 0, none⟩ = some (.slice A p.funcs.length ca) ∧ w'.cell? ⟨w.heap.size, 1, none⟩ = some (.slice B p.globals.length cb) ∧ w'.cell? ⟨w.heap.size, 2, none⟩ = some (.slice D p.layouts.length cd) ∧ w'.cell? ⟨w.heap.size, 3, none⟩ = some (.int .i64 p.main) ∧ w'.cell? ⟨w.heap.size + 1, 0, none⟩ = some (.int .i64 x.op) ∧ w'.cell? ⟨w.heap.size + 1, 1, none⟩ = some (.int .i64 x.a) ∧ w'.cell? ⟨w.heap.size + 1, 2, none⟩ = some (.int .i64 x.b) ∧ w'.cell? ⟨w.heap.size + 1, 3, none⟩ = some (.int .i64 x.c) ∧ w'.cell? ⟨w.heap.size + 1, 4, none⟩ = some (.int .i64 x.at') ∧ Below w.heap.size w w'
/-- The box of an instruction stands. -/
def BX1 (x : In) (w w' : World) : Prop := w'.cell? ⟨w.heap.size, 0, none⟩ = some (.int .i64 x.op) ∧ w'.cell? ⟨w.heap.size, 1, none⟩ = some (.int .i64 x.a) ∧ w'.cell? ⟨w.heap.size, 2, none⟩ = some (.int .i64 x.b) ∧ w'.cell? ⟨w.heap.size, 3, none⟩ = some (.int .i64 x.c) ∧ w'.cell? ⟨w.heap.size, 4, none⟩ = some (.int .i64 x.at') ∧ Below w.heap.size w w'
theorem BPX.keep {p : Pg} {A B D : Option Addr} {ca cb cd : Nat} {x : In} {w V w' : World} (h : BPX p A B D ca cb cd x w V) (hb : Below V.heap.size V w') : BPX p A B D ca cb cd x w w' := by
  obtain ⟨y0, y1, y2, y3, y4, y5, y6, y7, y8, b⟩ := h
  exact ⟨cell_bel y0 hb, cell_bel y1 hb, cell_bel y2 hb, cell_bel y3 hb, cell_bel y4 hb, cell_bel y5 hb, cell_bel y6 hb, cell_bel y7 hb, cell_bel y8 hb, b.trans (hb.mono b.size)⟩
theorem BPX.drew {p : Pg} {A B D : Option Addr} {ca cb cd : Nat} {x : In} {w V : World} (h : BPX p A B D ca cb cd x w V) : BPX p A B D ca cb cd x w V.drew := by
  obtain ⟨y0, y1, y2, y3, y4, y5, y6, y7, y8, b⟩ := h
  exact ⟨y0, y1, y2, y3, y4, y5, y6, y7, y8, Below.drew b⟩
theorem BPX.bel {p : Pg} {A B D : Option Addr} {ca cb cd : Nat} {x : In} {w V : World} (h : BPX p A B D ca cb cd x w V) : Below w.heap.size w V := by
  obtain ⟨y0, y1, y2, y3, y4, y5, y6, y7, y8, b⟩ := h
  exact b
theorem BX1.keep {x : In} {w V w' : World} (h : BX1 x w V) (hb : Below V.heap.size V w') : BX1 x w w' := by
  obtain ⟨y0, y1, y2, y3, y4, b⟩ := h
  exact ⟨cell_bel y0 hb, cell_bel y1 hb, cell_bel y2 hb, cell_bel y3 hb, cell_bel y4 hb, b.trans (hb.mono b.size)⟩
theorem BX1.drew {x : In} {w V : World} (h : BX1 x w V) : BX1 x w V.drew := by
  obtain ⟨y0, y1, y2, y3, y4, b⟩ := h
  exact ⟨y0, y1, y2, y3, y4, Below.drew b⟩
theorem BX1.bel {x : In} {w V : World} (h : BX1 x w V) : Below w.heap.size w V := by
  obtain ⟨y0, y1, y2, y3, y4, b⟩ := h
  exact b
theorem BPX.new (p : Pg) (A B D : Option Addr) (ca cb cd : Nat) (x : In) (w : World) : BPX p A B D ca cb cd x w ((w.alloc (.cells #[.slice A p.funcs.length ca, .slice B p.globals.length cb, .slice D p.layouts.length cd, .int .i64 p.main] 31)).alloc (.cells #[.int .i64 x.op, .int .i64 x.a, .int .i64 x.b, .int .i64 x.c, .int .i64 x.at'] 57)) := by
  have h := (Below.heap_alloc (w.alloc (.cells #[.slice A p.funcs.length ca, .slice B p.globals.length cb, .slice D p.layouts.length cd, .int .i64 p.main] 31)) (.cells #[.int .i64 x.op, .int .i64 x.a, .int .i64 x.b, .int .i64 x.c, .int .i64 x.at'] 57) w.heap.size (by simp)).trans (heap_alloc_new w (.cells #[.slice A p.funcs.length ca, .slice B p.globals.length cb, .slice D p.layouts.length cd, .int .i64 p.main] 31))
  have h2 := heap_alloc_new (w.alloc (.cells #[.slice A p.funcs.length ca, .slice B p.globals.length cb, .slice D p.layouts.length cd, .int .i64 p.main] 31)) (.cells #[.int .i64 x.op, .int .i64 x.a, .int .i64 x.b, .int .i64 x.c, .int .i64 x.at'] 57)
  rw [World.size_alloc] at h2
  refine ⟨?_, ?_, ?_, ?_, ?_, ?_, ?_, ?_, ?_, below2 _ _ _⟩
  iterate 4 (· rw [cell_of_row _ _ _ _ _ _ h]; rfl)
  iterate 5 (· rw [cell_of_row _ _ _ _ _ _ h2]; rfl)
theorem BX1.new (x : In) (w : World) : BX1 x w (w.alloc (.cells #[.int .i64 x.op, .int .i64 x.a, .int .i64 x.b, .int .i64 x.c, .int .i64 x.at'] 57)) := by
  have h := heap_alloc_new w (.cells #[.int .i64 x.op, .int .i64 x.a, .int .i64 x.b, .int .i64 x.c, .int .i64 x.at'] 57)
  refine ⟨?_, ?_, ?_, ?_, ?_, below1 _ _⟩ <;> (rw [cell_of_row _ _ _ _ _ _ h]; rfl)
/-- A row of the call's own is handed back. -/
def RetOwn (l : List Int) (w : World) (e : Ending) (w' : World) : Prop := ∃ v, e = .returned v ∧ w'.ownsRow w.heap.size 3 1 v l.length (l.map (Value.int .i64)) ∧ Below w.heap.size w w'
theorem own_keep {w w' : World} {base n : Nat} {e : TypeId} {v : Value} {xs : List Value} (h : w.ownsRow base e 1 v n xs) (hb : Below w.heap.size w w') : w'.ownsRow base e 1 v n xs :=
  h.kept (row := none) ⟨hb.os, hb.tape, hb.output, hb.size, fun k hk _ => hb.block k hk⟩ (by cases v.ownBlock <;> simp)
theorem own_weak {w : World} {base base' n : Nat} {e : TypeId} {v : Value} {xs : List Value} (h : w.ownsRow base e 1 v n xs) (hb : base' ≤ base) : w.ownsRow base' e 1 v n xs := by
  refine ⟨h.1, ?_⟩
  rcases h.2 with h1 | ⟨g, cap, cur, hv, hg, r⟩
  · exact .inl h1
  · exact .inr ⟨g, cap, cur, hv, by omega, r⟩
theorem up_len (a : Int) (n : Nat) : (upFrom a n).length = n := by simp [upFrom]
theorem up_succ (a : Int) (n : Nat) : upFrom a (n + 1) = upFrom a n ++ [a + (n : Int)] := by simp [upFrom, List.range_succ]
theorem wpList_append_own_nil {P : Program} (w : World) {ops : Array Oper} {rest : List Oper} {o : Oper} {a : Act} {Q : Exit → Act → World → Prop} (hgd : o.guard = none) (s x : Operand) (t : TypeId)
    (ho : o.op = .call { callee := .builtin .append, args := #[s, x], argTypes := #[t, t] })
    (base : Nat) (e : TypeId) (i : TypeInfo) (ht : P.underlying t = some (.slice e)) (hi : P.info? e = some i) (v : Value) (n : Nat) (xs : List Value) (hs : a.eval s = v) (hown : w.ownsRow base e 1 v n xs)
    (c : Nat) (hx : a.eval x = .slice none 0 c)
    (h : wpList P ops Q rest (a.put o.dst v) w) : wpList P ops Q (o :: rest) a w :=
  wpList_plain hgd fun _ hK => by
    have hrun : (Builtin.append_ #[t, t] o.type #[v, .slice none 0 c]).run P w = .ok v w := by
      rcases hown.2 with ⟨rfl, rfl⟩ | ⟨g, cap, cur, rfl, _, _, hnc, _⟩
      · simp [Builtin.append_, run_underlying ht, sizeOf, typeInfo, hi, Builtin.lenOf, Builtin.firstCells]
      · simp [Builtin.append_, run_underlying ht, sizeOf, typeInfo, hi, Builtin.lenOf, Builtin.firstCells, hnc, storeCells]
    unfold Oper.wp execOp
    simp only [ho, resolve, invoke, builtin, Sem.run_bind, Sem.run_pure, Result.andThen_ok, List.map_toArray, List.map_cons, List.map_nil, hs, hx, hrun]
    exact hK _ _ h
theorem BPX.grownK {p : Pg} {A B D : Option Addr} {ca cb cd : Nat} {x : In} {w V w' : World} {row : Option Nat} (h : BPX p A B D ca cb cd x w V) (hg : V.grownBy w' row) (hs : w.heap.size + 2 ≤ V.heap.size) (hr : ∀ j, row = some j → w.heap.size + 2 ≤ j) : BPX p A B D ca cb cd x w w' := by
  have hb : Below (w.heap.size + 2) V w' := (Below.refl _ V).grown hg hs hr
  obtain ⟨y0, y1, y2, y3, y4, y5, y6, y7, y8, b⟩ := h
  exact ⟨(hb.cell (p := ⟨w.heap.size, 0, none⟩) (by show w.heap.size < w.heap.size + 2; omega)).trans y0, (hb.cell (p := ⟨w.heap.size, 1, none⟩) (by show w.heap.size < w.heap.size + 2; omega)).trans y1, (hb.cell (p := ⟨w.heap.size, 2, none⟩) (by show w.heap.size < w.heap.size + 2; omega)).trans y2, (hb.cell (p := ⟨w.heap.size, 3, none⟩) (by show w.heap.size < w.heap.size + 2; omega)).trans y3, (hb.cell (p := ⟨w.heap.size + 1, 0, none⟩) (by show w.heap.size + 1 < w.heap.size + 2; omega)).trans y4, (hb.cell (p := ⟨w.heap.size + 1, 1, none⟩) (by show w.heap.size + 1 < w.heap.size + 2; omega)).trans y5, (hb.cell (p := ⟨w.heap.size + 1, 2, none⟩) (by show w.heap.size + 1 < w.heap.size + 2; omega)).trans y6, (hb.cell (p := ⟨w.heap.size + 1, 3, none⟩) (by show w.heap.size + 1 < w.heap.size + 2; omega)).trans y7, (hb.cell (p := ⟨w.heap.size + 1, 4, none⟩) (by show w.heap.size + 1 < w.heap.size + 2; omega)).trans y8, b.grown hg (by omega) (fun j hj => by have := hr j hj; omega)⟩
theorem BX1.grownK {x : In} {w V w' : World} {row : Option Nat} (h : BX1 x w V) (hg : V.grownBy w' row) (hs : w.heap.size + 1 ≤ V.heap.size) (hr : ∀ j, row = some j → w.heap.size + 1 ≤ j) : BX1 x w w' := by
  have hb : Below (w.heap.size + 1) V w' := (Below.refl _ V).grown hg hs hr
  obtain ⟨y0, y1, y2, y3, y4, b⟩ := h
  exact ⟨(hb.cell (p := ⟨w.heap.size, 0, none⟩) (by show w.heap.size < w.heap.size + 1; omega)).trans y0, (hb.cell (p := ⟨w.heap.size, 1, none⟩) (by show w.heap.size < w.heap.size + 1; omega)).trans y1, (hb.cell (p := ⟨w.heap.size, 2, none⟩) (by show w.heap.size < w.heap.size + 1; omega)).trans y2, (hb.cell (p := ⟨w.heap.size, 3, none⟩) (by show w.heap.size < w.heap.size + 1; omega)).trans y3, (hb.cell (p := ⟨w.heap.size, 4, none⟩) (by show w.heap.size < w.heap.size + 1; omega)).trans y4, b.grown hg (by omega) (fun j hj => by have := hr j hj; omega)⟩
end Go.Proofs.Ytlkaeonedijfpaa
