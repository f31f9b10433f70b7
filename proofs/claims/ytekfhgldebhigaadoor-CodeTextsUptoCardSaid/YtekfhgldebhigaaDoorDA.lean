/-
  The walks of the program's consecutive, sources, destinations.
-/
import Derived.Test.YtekfhgldebhigaaDoorCJ
set_option linter.all false
namespace Go.Proofs.YtekfhgldebhigaaDoor
open Go.RowKit C
/-- The boxes of a program and of an instruction stand. -/
def BPX (p : Pg) (A B D : Option Addr) (ca cb cd : Nat) (x : In) (w w' : World) : Prop := w'.cell? ⟨w.heap.size, 0, none⟩ = some (.slice A p.funcs.length ca) ∧ w'.cell? ⟨w.heap.size, 1, none⟩ = some (.slice B p.globals.length cb) ∧ w'.cell? ⟨w.heap.size, 2, none⟩ = some (.slice D p.layouts.length cd) ∧ w'.cell? ⟨w.heap.size, 3, none⟩ = some (.int .i64 p.main) ∧ w'.cell? ⟨w.heap.size + 1, 0, none⟩ = some (.int .i64 x.op) ∧ w'.cell? ⟨w.heap.size + 1, 1, none⟩ = some (.int .i64 x.a) ∧ w'.cell? ⟨w.heap.size + 1, 2, none⟩ = some (.int .i64 x.b) ∧ w'.cell? ⟨w.heap.size + 1, 3, none⟩ = some (.int .i64 x.c) ∧ w'.cell? ⟨w.heap.size + 1, 4, none⟩ = some (.int .i64 x.at') ∧ Below w.heap.size w w'
/-- The box of an instruction stands. -/
def BX1 (x : In) (w w' : World) : Prop := w'.cell? ⟨w.heap.size, 0, none⟩ = some (.int .i64 x.op) ∧ w'.cell? ⟨w.heap.size, 1, none⟩ = some (.int .i64 x.a) ∧ w'.cell? ⟨w.heap.size, 2, none⟩ = some (.int .i64 x.b) ∧ w'.cell? ⟨w.heap.size, 3, none⟩ = some (.int .i64 x.c) ∧ w'.cell? ⟨w.heap.size, 4, none⟩ = some (.int .i64 x.at') ∧ Below w.heap.size w w'
theorem BPX.keep {p : Pg} {A B D : Option Addr} {ca cb cd : Nat} {x : In} {w V w' : World} (h : BPX p A B D ca cb cd x w V) (hb : Below V.heap.size V w') : BPX p A B D ca cb cd x w w' := by
  obtain ⟨y0, y1, y2, y3, y4, y5, y6, y7, y8, b⟩ := h
  exact ⟨cell_bel y0 hb, cell_bel y1 hb, cell_bel y2 hb, cell_bel y3 hb, cell_bel y4 hb, cell_bel y5 hb, cell_bel y6 hb, cell_bel y7 hb, cell_bel y8 hb, b.trans (hb.mono b.size)⟩
theorem BPX.drew {p : Pg} {A B D : Option Addr} {ca cb cd : Nat} {x : In} {w V : World} (h : BPX p A B D ca cb cd x w V) : BPX p A B D ca cb cd x w V.drew := by
  obtain ⟨y0, y1, y2, y3, y4, y5, y6, y7, y8, b⟩ := h
  exact ⟨y0, y1, y2, y3, y4, y5, y6, y7, y8, Below.drew b⟩
theorem BPX.bel {p : Pg} {A B D : Option Addr} {ca cb cd : Nat} {x : In} {w V : World} (h : BPX p A B D ca cb cd x w V) : Below w.heap.size w V := by
  obtain ⟨y0, y1, y2, y3, y4, y5, y6, y7, y8, b⟩ := h
  exact b
theorem BX1.keep {x : In} {w V w' : World} (h : BX1 x w V) (hb : Below V.heap.size V w') : BX1 x w w' := by
  obtain ⟨y0, y1, y2, y3, y4, b⟩ := h
  exact ⟨cell_bel y0 hb, cell_bel y1 hb, cell_bel y2 hb, cell_bel y3 hb, cell_bel y4 hb, b.trans (hb.mono b.size)⟩
theorem BX1.drew {x : In} {w V : World} (h : BX1 x w V) : BX1 x w V.drew := by
  obtain ⟨y0, y1, y2, y3, y4, b⟩ := h
  exact ⟨y0, y1, y2, y3, y4, Below.drew b⟩
theorem BX1.bel {x : In} {w V : World} (h : BX1 x w V) : Below w.heap.size w V := by
  obtain ⟨y0, y1, y2, y3, y4, b⟩ := h
  exact b
theorem BPX.new (p : Pg) (A B D : Option Addr) (ca cb cd : Nat) (x : In) (w : World) : BPX p A B D ca cb cd x w ((w.alloc (.cells #[.slice A p.funcs.length ca, .slice B p.globals.length cb, .slice D p.layouts.length cd, .int .i64 p.main] 26)).alloc (.cells #[.int .i64 x.op, .int .i64 x.a, .int .i64 x.b, .int .i64 x.c, .int .i64 x.at'] 34)) := by
  have h := (Below.heap_alloc (w.alloc (.cells #[.slice A p.funcs.length ca, .slice B p.globals.length cb, .slice D p.layouts.length cd, .int .i64 p.main] 26)) (.cells #[.int .i64 x.op, .int .i64 x.a, .int .i64 x.b, .int .i64 x.c, .int .i64 x.at'] 34) w.heap.size (by simp)).trans (heap_alloc_new w (.cells #[.slice A p.funcs.length ca, .slice B p.globals.length cb, .slice D p.layouts.length cd, .int .i64 p.main] 26))
  have h2 := heap_alloc_new (w.alloc (.cells #[.slice A p.funcs.length ca, .slice B p.globals.length cb, .slice D p.layouts.length cd, .int .i64 p.main] 26)) (.cells #[.int .i64 x.op, .int .i64 x.a, .int .i64 x.b, .int .i64 x.c, .int .i64 x.at'] 34)
  rw [World.size_alloc] at h2
  refine ⟨?_, ?_, ?_, ?_, ?_, ?_, ?_, ?_, ?_, below2 _ _ _⟩
  iterate 4 (· rw [cell_of_row _ _ _ _ _ _ h]; rfl)
  iterate 5 (· rw [cell_of_row _ _ _ _ _ _ h2]; rfl)
theorem BX1.new (x : In) (w : World) : BX1 x w (w.alloc (.cells #[.int .i64 x.op, .int .i64 x.a, .int .i64 x.b, .int .i64 x.c, .int .i64 x.at'] 34)) := by
  have h := heap_alloc_new w (.cells #[.int .i64 x.op, .int .i64 x.a, .int .i64 x.b, .int .i64 x.c, .int .i64 x.at'] 34)
  refine ⟨?_, ?_, ?_, ?_, ?_, below1 _ _⟩ <;> (rw [cell_of_row _ _ _ _ _ _ h]; rfl)
/-- A row of the call's own is handed back. -/
def RetOwn (l : List Int) (w : World) (e : Ending) (w' : World) : Prop := ∃ v, e = .returned v ∧ w'.ownsRow w.heap.size 3 1 v l.length (l.map (Value.int .i64)) ∧ Below w.heap.size w w'
theorem own_keep {w w' : World} {base n : Nat} {e : TypeId} {v : Value} {xs : List Value} (h : w.ownsRow base e 1 v n xs) (hb : Below w.heap.size w w') : w'.ownsRow base e 1 v n xs :=
  h.kept (row := none) ⟨hb.os, hb.tape, hb.output, hb.size, fun k hk _ => hb.block k hk⟩ (by cases v.ownBlock <;> simp)
theorem own_weak {w : World} {base base' n : Nat} {e : TypeId} {v : Value} {xs : List Value} (h : w.ownsRow base e 1 v n xs) (hb : base' ≤ base) : w.ownsRow base' e 1 v n xs := by
  refine ⟨h.1, ?_⟩
  rcases h.2 with h1 | ⟨g, cap, cur, hv, hg, r⟩
  · exact .inl h1
  · exact .inr ⟨g, cap, cur, hv, by omega, r⟩
theorem up_len (a : Int) (n : Nat) : (upFrom a n).length = n := by simp [upFrom]
theorem up_succ (a : Int) (n : Nat) : upFrom a (n + 1) = upFrom a n ++ [a + (n : Int)] := by simp [upFrom, List.range_succ]
set_option maxRecDepth 100000 in
set_option maxHeartbeats 2000000 in
theorem consecutive_any (a : Int) (n : Nat) (w : World) (h0 : 0 ≤ a) (h1 : a ≤ 1000) (hn : n ≤ 1000) :
    Calls Tryd.prog 59 #[.int .i64 a, .int .i64 (n : Int)] w (RetOwn (upFrom a n) w) := by
  obtain ⟨i0, hi, hz0, hz1, hz2⟩ := info_parts infoI
  go_enter Tryd.func59, Tryd.ntmps59
  go_wp2
  go_loopw [5, 8] (fun v i wr => ∃ k : Nat, k ≤ n ∧ i = .int .i64 k ∧ Hid (wr.ownsRow w.heap.size 3 1 v k ((upFrom a k).map (Value.int .i64))) ∧ Hid (Below w.heap.size w wr)) (fun _ i _ => n - (intOf i).toNat)
  case atStart => exact ⟨0, Nat.zero_le _, rfl, Lib.hid (World.ownsRow_nil _ _ _ _), Lib.hid (Below.refl _ _)⟩
  case round =>
    obtain ⟨k, hk, rfl, ho, HB⟩ := hrel
    have m0 : w.heap.size ≤ wr.heap.size := HB.out.size
    by_cases hlt : k < n
    · go_wp2_with (at_builtin; refine wpList_append_lies _ rfl _ _ _ rfl (w.heap.size) 3 i0 _ 1 8 Tryd.underlying39 hi hz0 hz1 hz2 rfl (by omega) u5 k _ rfl (ho.out.alloc _) ⟨wr.heap.size, 0, none⟩ 1 1 [.int .i64 (a + (k : Int))] rfl rfl (World.news_of_block (cs := #[.int .i64 (a + (k : Int))]) (t := 3) (fr := (0, 0)) (heap_alloc_new wr _)) (by simp [Value.oneCell']) (by omega) (by unfold maxLen; omega) (by omega) (by simp; omega) (wr.heap.size + 1) (by simp) ?_; intro g1 cap1 w4 hown1 hgrow1 hat1 hlt1)
      have HT : Hid (w4.ownsRow w.heap.size 3 1 (.slice (some ⟨g1, 0, none⟩) (k + 1) cap1) (k + 1) ((upFrom a (k + 1)).map (Value.int .i64))) := Lib.hid (by
        rw [up_succ, List.map_append]; exact hown1)
      have HB4 := Lib.hid ((HB.out.alloc m0 _).grown hgrow1 (by simp; omega) (fun j hj => (ho.out.lt j hj).1))
      clear hown1 hgrow1 hat1
      go_wp2
      go_roundw
      case rel => exact ⟨k + 1, by omega, by go_num, HT, HB4⟩
      case measure => simp [intOf]; omega
    · obtain rfl : k = n := by omega
      go_wp2
      go_ret
      exact ⟨_, rfl, by rw [up_len]; exact ho.out, HB.out⟩
set_option maxHeartbeats 2000000 in
theorem consecutive_zero (a : Int) (w : World) : Calls Tryd.prog 59 #[.int .i64 a, .int .i64 0] w fun e w' => e = .returned (.slice none 0 0) ∧ w = w' := by
  go_enter Tryd.func59, Tryd.ntmps59
  go_wp2
  go_loop [5, 8] (fun v i => v = .slice none 0 0 ∧ i = .int .i64 0) (fun _ _ => 0)
  case atStart => exact ⟨rfl, rfl⟩
  case round =>
    obtain ⟨rfl, rfl⟩ := hrel
    go_wp2
    go_ret
    exact ⟨rfl, rfl⟩
/-! ### sources -/
def srcOne (p : Pg) (x : In) (q : UInt8) (v : Int) : List Int :=
  if q = 115 ∨ q = 83 then [v]
  else if q = 112 then [v, v + 1]
  else if q = 97 then upFrom v (p.funcs.getD x.b.toNat default).params.toNat
  else if q = 110 then upFrom (x.a + 1) v.toNat
  else if q = 107 then [0]
  else []
/-- What is asked where an operand is listed. -/
structure SrcAsk (p : Pg) (x : In) (q : UInt8) (v : Int) : Prop where
  two : q = 112 → 0 ≤ v ∧ v ≤ 64
  args : q = 97 → 0 ≤ x.b ∧ x.b < (p.funcs.length : Int) ∧ 0 ≤ (p.funcs.getD x.b.toNat default).params ∧ (p.funcs.getD x.b.toNat default).params ≤ 64 ∧ 0 ≤ v ∧ v ≤ 64
  caps : q = 110 → 0 ≤ v ∧ v ≤ 64 ∧ 0 ≤ x.a ∧ x.a ≤ 64
theorem srcOne_len {p : Pg} {x : In} {q : UInt8} {v : Int} (h : SrcAsk p x q v) : (srcOne p x q v).length ≤ 64 := by
  unfold srcOne
  split
  · simp
  · split
    · simp
    · split
      · rename_i e; have := h.args e; rw [up_len]; omega
      · split
        · rename_i e; have := h.caps e; rw [up_len]; omega
        · split <;> simp
def LL (s0 s1 s2 : List Int) (k : Nat) : List Int := if k = 0 then [] else if k = 1 then s0 else if k = 2 then s0 ++ s1 else s0 ++ s1 ++ s2
theorem wpList_append_own_nil {P : Program} (w : World) {ops : Array Oper} {rest : List Oper} {o : Oper} {a : Act} {Q : Exit → Act → World → Prop} (hgd : o.guard = none) (s x : Operand) (t : TypeId)
    (ho : o.op = .call { callee := .builtin .append, args := #[s, x], argTypes := #[t, t] })
    (base : Nat) (e : TypeId) (i : TypeInfo) (ht : P.underlying t = some (.slice e)) (hi : P.info? e = some i) (v : Value) (n : Nat) (xs : List Value) (hs : a.eval s = v) (hown : w.ownsRow base e 1 v n xs)
    (c : Nat) (hx : a.eval x = .slice none 0 c)
    (h : wpList P ops Q rest (a.put o.dst v) w) : wpList P ops Q (o :: rest) a w :=
  wpList_plain hgd fun _ hK => by
    have hrun : (Builtin.append_ #[t, t] o.type #[v, .slice none 0 c]).run P w = .ok v w := by
      rcases hown.2 with ⟨rfl, rfl⟩ | ⟨g, cap, cur, rfl, _, _, hnc, _⟩
      · simp [Builtin.append_, run_underlying ht, sizeOf, typeInfo, hi, Builtin.lenOf, Builtin.firstCells]
      · simp [Builtin.append_, run_underlying ht, sizeOf, typeInfo, hi, Builtin.lenOf, Builtin.firstCells, hnc, storeCells]
    unfold Oper.wp execOp
    simp only [ho, resolve, invoke, builtin, Sem.run_bind, Sem.run_pure, Result.andThen_ok, List.map_toArray, List.map_cons, List.map_nil, hs, hx, hrun]
    exact hK _ _ h
theorem BPX.grownK {p : Pg} {A B D : Option Addr} {ca cb cd : Nat} {x : In} {w V w' : World} {row : Option Nat} (h : BPX p A B D ca cb cd x w V) (hg : V.grownBy w' row) (hs : w.heap.size + 2 ≤ V.heap.size) (hr : ∀ j, row = some j → w.heap.size + 2 ≤ j) : BPX p A B D ca cb cd x w w' := by
  have hb : Below (w.heap.size + 2) V w' := (Below.refl _ V).grown hg hs hr
  obtain ⟨y0, y1, y2, y3, y4, y5, y6, y7, y8, b⟩ := h
  exact ⟨(hb.cell (p := ⟨w.heap.size, 0, none⟩) (by show w.heap.size < w.heap.size + 2; omega)).trans y0, (hb.cell (p := ⟨w.heap.size, 1, none⟩) (by show w.heap.size < w.heap.size + 2; omega)).trans y1, (hb.cell (p := ⟨w.heap.size, 2, none⟩) (by show w.heap.size < w.heap.size + 2; omega)).trans y2, (hb.cell (p := ⟨w.heap.size, 3, none⟩) (by show w.heap.size < w.heap.size + 2; omega)).trans y3, (hb.cell (p := ⟨w.heap.size + 1, 0, none⟩) (by show w.heap.size + 1 < w.heap.size + 2; omega)).trans y4, (hb.cell (p := ⟨w.heap.size + 1, 1, none⟩) (by show w.heap.size + 1 < w.heap.size + 2; omega)).trans y5, (hb.cell (p := ⟨w.heap.size + 1, 2, none⟩) (by show w.heap.size + 1 < w.heap.size + 2; omega)).trans y6, (hb.cell (p := ⟨w.heap.size + 1, 3, none⟩) (by show w.heap.size + 1 < w.heap.size + 2; omega)).trans y7, (hb.cell (p := ⟨w.heap.size + 1, 4, none⟩) (by show w.heap.size + 1 < w.heap.size + 2; omega)).trans y8, b.grown hg (by omega) (fun j hj => by have := hr j hj; omega)⟩
theorem BX1.grownK {x : In} {w V w' : World} {row : Option Nat} (h : BX1 x w V) (hg : V.grownBy w' row) (hs : w.heap.size + 1 ≤ V.heap.size) (hr : ∀ j, row = some j → w.heap.size + 1 ≤ j) : BX1 x w w' := by
  have hb : Below (w.heap.size + 1) V w' := (Below.refl _ V).grown hg hs hr
  obtain ⟨y0, y1, y2, y3, y4, b⟩ := h
  exact ⟨(hb.cell (p := ⟨w.heap.size, 0, none⟩) (by show w.heap.size < w.heap.size + 1; omega)).trans y0, (hb.cell (p := ⟨w.heap.size, 1, none⟩) (by show w.heap.size < w.heap.size + 1; omega)).trans y1, (hb.cell (p := ⟨w.heap.size, 2, none⟩) (by show w.heap.size < w.heap.size + 1; omega)).trans y2, (hb.cell (p := ⟨w.heap.size, 3, none⟩) (by show w.heap.size < w.heap.size + 1; omega)).trans y3, (hb.cell (p := ⟨w.heap.size, 4, none⟩) (by show w.heap.size < w.heap.size + 1; omega)).trans y4, b.grown hg (by omega) (fun j hj => by have := hr j hj; omega)⟩
set_option maxRecDepth 100000 in
set_option maxHeartbeats 8000000 in
theorem sources_any (p : Pg) (A B D : Option Addr) (ca cb cd : Nat) (x : In) (w : World) (hp : PgAt w p A B D ca cb cd) (q0 q1 q2 : UInt8) (hq : rolesP x = [q0, q1, q2]) (h0 : SrcAsk p x q0 x.a) (h1 : SrcAsk p x q1 x.b) (h2 : SrcAsk p x q2 x.c) :
    Calls Tryd.prog 37 #[pv p A B D ca cb cd, xv x] w (RetOwn (srcOne p x q0 x.a ++ srcOne p x q1 x.b ++ srcOne p x q2 x.c) w) := by
  have HN := Lib.hid (BPX.new p A B D ca cb cd x w)
  have HP := Lib.hid hp
  have ask0 := Lib.hid h0
  have ask1 := Lib.hid h1
  have ask2 := Lib.hid h2
  have l0 := srcOne_len h0
  have l1 := srcOne_len h1
  have l2 := srcOne_len h2
  obtain ⟨s0, hd0⟩ : ∃ l, srcOne p x q0 x.a = l := ⟨_, rfl⟩
  obtain ⟨s1, hd1⟩ : ∃ l, srcOne p x q1 x.b = l := ⟨_, rfl⟩
  obtain ⟨s2, hd2⟩ : ∃ l, srcOne p x q2 x.c = l := ⟨_, rfl⟩
  rw [hd0, hd1, hd2]
  rw [hd0] at l0
  rw [hd1] at l1
  rw [hd2] at l2
  have hd0 := Lib.hid hd0
  have hd1 := Lib.hid hd1
  have hd2 := Lib.hid hd2
  clear hp h0 h1 h2
  obtain ⟨i0, hi, hz0, hz1, hz2⟩ := info_parts infoI
  obtain ⟨s, hs⟩ : ∃ s, txt [q0, q1, q2] = s := ⟨_, rfl⟩
  have HR : Hid (∀ V, Calls Tryd.prog 57 #[xv x] V fun e w' => e = .returned (.string s) ∧ Below V.heap.size V w') := Lib.hid fun V => by have := rolesOf_any x V; rw [hq, hs] at this; exact this
  have HO : Hid (∀ V, Calls Tryd.prog 58 #[xv x] V fun e w' => e = .returned (ov x) ∧ Below V.heap.size V w') := Lib.hid fun V => operands_any x V
  have z3 : s.size = 3 := by rw [← hs]; rfl
  have i0' : s[0].toNat = q0.toNat := by subst hs; rfl
  have i1 : s[1].toNat = q1.toNat := by subst hs; rfl
  have i2 : s[2].toNat = q2.toNat := by subst hs; rfl
  obtain ⟨t0, ht0⟩ : ∃ t, q0.toNat = t := ⟨_, rfl⟩
  obtain ⟨t1, ht1⟩ : ∃ t, q1.toNat = t := ⟨_, rfl⟩
  obtain ⟨t2, ht2⟩ : ∃ t, q2.toNat = t := ⟨_, rfl⟩
  rw [ht0] at i0'
  rw [ht1] at i1
  rw [ht2] at i2
  have ht0 := Lib.hid ht0
  have ht1 := Lib.hid ht1
  have ht2 := Lib.hid ht2
  clear hs hq
  go_enter Tryd.func37, Tryd.ntmps37
  go_wp2_with fail
  refine (HR.out _).mono ?_
  rintro e w1 ⟨rfl, hw1⟩
  have hbx1 := Lib.hid (HN.out.keep hw1)
  have hz1 := hw1.size
  simp only [World.size_alloc] at hz1
  obtain ⟨y00, y01, y02, y03, y10, y11, y12, y13, y14, yb⟩ := hbx1.out
  clear yb hw1
  go_wp2_with fail
  refine (HO.out _).mono ?_
  rintro e w2 ⟨rfl, hw2⟩
  have hbx2 := Lib.hid (hbx1.out.keep hw2)
  have hz2' := hw2.size
  clear hw2 y00 y01 y02 y03 y10 y11 y12 y13 y14 hbx1 HR HO HN
  have m2 : w.heap.size + 2 ≤ w2.heap.size := by omega
  go_wp2
  go_loopw [5, 13] (fun v i wr => ∃ k : Nat, k ≤ 3 ∧ i = .int .i64 k ∧ Hid (wr.ownsRow (w.heap.size + 2) 3 1 v (LL s0 s1 s2 k).length ((LL s0 s1 s2 k).map (Value.int .i64))) ∧ w.heap.size + 2 ≤ wr.heap.size ∧ Hid (BPX p A B D ca cb cd x w wr)) (fun _ i _ => 3 - (intOf i).toNat)
  case atStart => exact ⟨0, by omega, rfl, Lib.hid (World.ownsRow_nil _ _ _ _), m2, hbx2⟩
  case round =>
    clear hbx2 m2 hz1 hz2'
    obtain ⟨k, hk, rfl, ho, m2, hbx⟩ := hrel
    obtain ⟨acc, hacc⟩ : ∃ acc, LL s0 s1 s2 k = acc := ⟨_, rfl⟩
    rw [hacc] at ho
    have hal : acc.length ≤ 192 := by rw [← hacc]; unfold LL; split; simp; split; omega; split; simp; omega; simp; omega
    have hacc := Lib.hid hacc
    by_cases hlt : k < 3
    · obtain rfl | rfl | rfl : k = 0 ∨ k = 1 ∨ k = 2 := by omega
      · have hix : ∀ W, (Instr.index 59 (.agg #[.int .i64 x.a, .int .i64 x.b, .int .i64 x.c]) (.int .i64 0)).run Tryd.prog W = .ok (.int .i64 x.a) W := fun _ => by kernel_rfl
        have c0 : (0 : Int) < (s.size : Int) := by omega
        have c1 : (1 : Int) < (s.size : Int) := by omega
        have c2 : (2 : Int) < (s.size : Int) := by omega
        have HACC : Hid (LL s0 s1 s2 1 = acc ++ s0) := Lib.hid (by rw [← hacc.out]; simp [LL])
        by_cases e115 : q0 = 115
        · obtain rfl : t0 = 115 := by rw [← ht0.out, e115]; rfl
          have hs0 : Hid (s0 = [x.a]) := Lib.hid (by rw [← hd0.out, e115]; simp [srcOne])
          clear e115
          go_wp2_with (at_builtin; refine wpList_append_lies _ rfl _ _ _ rfl (w.heap.size + 2) 3 i0 _ 1 8 Tryd.underlying39 hi hz0 hz1 hz2 rfl (by omega) u5 acc.length (acc.map (Value.int .i64)) rfl (ho.out.alloc _) ⟨wr.heap.size, 0, none⟩ 1 1 ([.int .i64 x.a]) rfl (rfl) (World.news_of_block (cs := #[.int .i64 x.a]) (t := 3) (fr := (0, 0)) (heap_alloc_new wr _)) (by simp [Value.oneCell']) (by omega) (by unfold maxLen; omega) (by omega) (by first | omega | (simp; omega)) (wr.heap.size + 1) (by first | rfl | simp) ?_; intro g1 cap1 w4 hown1 hgrow1 hat1 hlt1)
          have HT : Hid (w4.ownsRow (w.heap.size + 2) 3 1 (.slice (some ⟨g1, 0, none⟩) (LL s0 s1 s2 1).length cap1) (LL s0 s1 s2 1).length ((LL s0 s1 s2 1).map (Value.int .i64))) := Lib.hid (by
            rw [HACC.out, hs0.out, List.length_append, List.map_append]; exact hown1)
          have HE : Hid ((LL s0 s1 s2 1).length = acc.length + 1) := Lib.hid (by rw [HACC.out, hs0.out, List.length_append]; rfl)
          rw [HE.out] at HT
          have HB4 := Lib.hid ((((hbx.out.keep (below1 _ _)).grownK hgrow1 (by simp; omega) (fun j hj => by have := (ho.out.lt j hj).1; omega))))
          have hz4 : w.heap.size + 2 ≤ w4.heap.size := by have := hgrow1.size; (try simp only [World.size_alloc] at this); omega
          clear hown1 hgrow1 hat1
          go_wp2
          go_roundw
          case rel => exact ⟨1, by omega, by first | rfl | go_num, Lib.hid (by rw [HE.out]; exact HT.out), hz4, HB4⟩
          case measure => simp [intOf]
        by_cases e83 : q0 = 83
        · obtain rfl : t0 = 83 := by rw [← ht0.out, e83]; rfl
          have hs0 : Hid (s0 = [x.a]) := Lib.hid (by rw [← hd0.out, e83]; simp [srcOne])
          clear e83
          go_wp2_with (at_builtin; refine wpList_append_lies _ rfl _ _ _ rfl (w.heap.size + 2) 3 i0 _ 1 8 Tryd.underlying39 hi hz0 hz1 hz2 rfl (by omega) u5 acc.length (acc.map (Value.int .i64)) rfl (ho.out.alloc _) ⟨wr.heap.size, 0, none⟩ 1 1 ([.int .i64 x.a]) rfl (rfl) (World.news_of_block (cs := #[.int .i64 x.a]) (t := 3) (fr := (0, 0)) (heap_alloc_new wr _)) (by simp [Value.oneCell']) (by omega) (by unfold maxLen; omega) (by omega) (by first | omega | (simp; omega)) (wr.heap.size + 1) (by first | rfl | simp) ?_; intro g1 cap1 w4 hown1 hgrow1 hat1 hlt1)
          have HT : Hid (w4.ownsRow (w.heap.size + 2) 3 1 (.slice (some ⟨g1, 0, none⟩) (LL s0 s1 s2 1).length cap1) (LL s0 s1 s2 1).length ((LL s0 s1 s2 1).map (Value.int .i64))) := Lib.hid (by
            rw [HACC.out, hs0.out, List.length_append, List.map_append]; exact hown1)
          have HE : Hid ((LL s0 s1 s2 1).length = acc.length + 1) := Lib.hid (by rw [HACC.out, hs0.out, List.length_append]; rfl)
          rw [HE.out] at HT
          have HB4 := Lib.hid ((((hbx.out.keep (below1 _ _)).grownK hgrow1 (by simp; omega) (fun j hj => by have := (ho.out.lt j hj).1; omega))))
          have hz4 : w.heap.size + 2 ≤ w4.heap.size := by have := hgrow1.size; (try simp only [World.size_alloc] at this); omega
          clear hown1 hgrow1 hat1
          go_wp2
          go_roundw
          case rel => exact ⟨1, by omega, by first | rfl | go_num, Lib.hid (by rw [HE.out]; exact HT.out), hz4, HB4⟩
          case measure => simp [intOf]
        by_cases e112 : q0 = 112
        · obtain rfl : t0 = 112 := by rw [← ht0.out, e112]; rfl
          have hs0 : Hid (s0 = [x.a, x.a + 1]) := Lib.hid (by rw [← hd0.out, e112]; simp [srcOne])
          have hv2 := (ask0.out.two e112)
          have hv3 := hv2.1
          have hv4 := hv2.2
          clear e112 hv2
          go_wp2_with (at_builtin; refine wpList_append_lies _ rfl _ _ _ rfl (w.heap.size + 2) 3 i0 _ 1 8 Tryd.underlying39 hi hz0 hz1 hz2 rfl (by omega) u5 acc.length (acc.map (Value.int .i64)) rfl (ho.out.alloc _) ⟨wr.heap.size, 0, none⟩ 2 2 ([.int .i64 x.a, .int .i64 (x.a + 1)]) rfl (rfl) (World.news_of_block (cs := #[.int .i64 x.a, .int .i64 (x.a + 1)]) (t := 3) (fr := (0, 0)) (heap_alloc_new wr _)) (by simp [Value.oneCell']) (by omega) (by unfold maxLen; omega) (by omega) (by first | omega | (simp; omega)) (wr.heap.size + 1) (by first | rfl | simp) ?_; intro g1 cap1 w4 hown1 hgrow1 hat1 hlt1)
          have HT : Hid (w4.ownsRow (w.heap.size + 2) 3 1 (.slice (some ⟨g1, 0, none⟩) (LL s0 s1 s2 1).length cap1) (LL s0 s1 s2 1).length ((LL s0 s1 s2 1).map (Value.int .i64))) := Lib.hid (by
            rw [HACC.out, hs0.out, List.length_append, List.map_append]; exact hown1)
          have HE : Hid ((LL s0 s1 s2 1).length = acc.length + 2) := Lib.hid (by rw [HACC.out, hs0.out, List.length_append]; rfl)
          rw [HE.out] at HT
          have HB4 := Lib.hid ((((hbx.out.keep (below1 _ _)).grownK hgrow1 (by simp; omega) (fun j hj => by have := (ho.out.lt j hj).1; omega))))
          have hz4 : w.heap.size + 2 ≤ w4.heap.size := by have := hgrow1.size; (try simp only [World.size_alloc] at this); omega
          clear hown1 hgrow1 hat1
          go_wp2
          go_roundw
          case rel => exact ⟨1, by omega, by first | rfl | go_num, Lib.hid (by rw [HE.out]; exact HT.out), hz4, HB4⟩
          case measure => simp [intOf]
        by_cases e97 : q0 = 97
        · obtain rfl : t0 = 97 := by rw [← ht0.out, e97]; rfl
          have hv2 := (ask0.out.args e97)
          obtain ⟨b0, b1, b2, b3, b4, b5⟩ := hv2
          obtain ⟨gf, of, hAf, hrf⟩ := HP.out.fs.at (by omega)
          subst hAf
          obtain ⟨y00, y01, y02, y03, y10, y11, y12, y13, y14, yb⟩ := hbx.out
          have hh := (hrf x.b.toNat (by omega)).below yb
          have hget := getD_at b0 b1
          rw [hget] at b2 b3
          obtain ⟨fy, hfy⟩ : ∃ fy, p.funcs[x.b.toNat]'(by omega) = fy := ⟨_, rfl⟩
          rw [hfy] at hh b2 b3
          have z1 := hh.c1
          obtain ⟨n, hn⟩ := Int.eq_ofNat_of_zero_le b2
          have hs0 : Hid (s0 = upFrom x.a n) := Lib.hid (by rw [← hd0.out, e97]; unfold srcOne; rw [if_neg (by decide), if_neg (by decide), if_pos rfl, hget, hfy, hn]; rfl)
          rw [hn] at z1 b3
          have n64 : n ≤ 64 := by omega
          have HC : Hid (∀ V, Calls Tryd.prog 59 #[.int .i64 x.a, .int .i64 (n : Int)] V (RetOwn (upFrom x.a n) V)) := Lib.hid fun V => consecutive_any x.a n V b4 (by omega) (by omega)
          clear e97 hget hfy hh yb hrf hn b2 b3
          rcases Nat.eq_zero_or_pos n with hn0 | hn0
          · have HE : Hid (LL s0 s1 s2 1 = acc) := Lib.hid (by rw [HACC.out, hs0.out, hn0]; simp [upFrom])
            obtain rfl := hn0
            clear HC
            go_wp2_with (first
              | (go_at_call 59; (with_reducible refine (consecutive_zero _ _).mono ?_); rintro e w3 ⟨rfl, rfl⟩)
              | (at_builtin; refine wpList_append_own_nil _ rfl _ _ _ rfl (w.heap.size + 2) 3 i0 Tryd.underlying39 hi u5 acc.length (acc.map (Value.int .i64)) rfl ho.out 0 rfl ?_))
            go_roundw
            case rel => exact ⟨1, by omega, by first | rfl | go_num, Lib.hid (by rw [HE.out]; exact ho.out), m2, hbx⟩
            case measure => simp [intOf]
          · go_wp2_with fail
            refine (HC.out _).mono ?_
            rintro e w3 ⟨vc, rfl, hoc, hwc⟩
            have ho3 := Lib.hid (own_keep ho.out hwc)
            have hwc3 : wr.heap.size ≤ w3.heap.size := hwc.size
            have hbx3 := Lib.hid (hbx.out.keep hwc)
            rw [up_len] at hoc
            have HOC := Lib.hid hoc
            clear hoc hwc HC
            obtain ⟨gc, capc, rfl, hgb, hgl⟩ := HOC.out.form hn0
            have HCE := Lib.hid (HOC.out.cells (g := gc) rfl)
            go_wp2_with (at_builtin; refine wpList_append_lies _ rfl _ _ _ rfl (w.heap.size + 2) 3 i0 _ 1 8 Tryd.underlying39 hi hz0 hz1 hz2 rfl (by omega) u5 acc.length (acc.map (Value.int .i64)) rfl (ho3.out) ⟨gc, 0, none⟩ n capc ((upFrom x.a n).map (Value.int .i64)) rfl (by simp [up_len]) (HCE.out) (by intro u hu; obtain ⟨z, _, rfl⟩ := List.mem_map.1 hu; rfl) (by omega) (by unfold maxLen; omega) (by omega) (by first | omega | (simp; omega)) (w3.heap.size) (by first | rfl | simp) ?_; intro g1 cap1 w4 hown1 hgrow1 hat1 hlt1)
            have HT : Hid (w4.ownsRow (w.heap.size + 2) 3 1 (.slice (some ⟨g1, 0, none⟩) (LL s0 s1 s2 1).length cap1) (LL s0 s1 s2 1).length ((LL s0 s1 s2 1).map (Value.int .i64))) := Lib.hid (by
              rw [HACC.out, hs0.out, List.length_append, List.map_append, up_len]; exact hown1)
            have HE : Hid ((LL s0 s1 s2 1).length = acc.length + n) := Lib.hid (by rw [HACC.out, hs0.out, List.length_append, up_len])
            rw [HE.out] at HT
            have HB4 := Lib.hid ((hbx3.out.grownK hgrow1 (by omega) (fun j hj => by have := (ho.out.lt j hj).1; omega)))
            have hz4 : w.heap.size + 2 ≤ w4.heap.size := by have := hgrow1.size; (try simp only [World.size_alloc] at this); omega
            clear hown1 hgrow1 hat1
            go_wp2
            go_roundw
            case rel => exact ⟨1, by omega, by first | rfl | go_num, Lib.hid (by rw [HE.out]; exact HT.out), hz4, HB4⟩
            case measure => simp [intOf]
        by_cases e110 : q0 = 110
        · obtain rfl : t0 = 110 := by rw [← ht0.out, e110]; rfl
          have hv2 := (ask0.out.caps e110)
          obtain ⟨b0, b1, b2, b3⟩ := hv2
          obtain ⟨n, hn⟩ := Int.eq_ofNat_of_zero_le b0
          have hs0 : Hid (s0 = upFrom (x.a + 1) n) := Lib.hid (by rw [← hd0.out, e110]; unfold srcOne; rw [if_neg (by decide), if_neg (by decide), if_neg (by decide), if_pos rfl, hn]; rfl)
          have n64 : n ≤ 64 := by omega
          obtain ⟨y00, y01, y02, y03, y10, y11, y12, y13, y14, yb⟩ := hbx.out
          have HC : Hid (∀ V, Calls Tryd.prog 59 #[.int .i64 (x.a + 1), .int .i64 x.a] V (RetOwn (upFrom (x.a + 1) n) V)) := Lib.hid fun V => by have h := consecutive_any (x.a + 1) n V (by omega) (by omega) (by omega); rwa [← hn] at h
          have hna : Hid (x.a = (n : Int)) := Lib.hid hn
          clear e110 hn yb
          rcases Nat.eq_zero_or_pos n with hn0 | hn0
          · have HE : Hid (LL s0 s1 s2 1 = acc) := Lib.hid (by rw [HACC.out, hs0.out, hn0]; simp [upFrom])
            have hz0' : x.a = 0 := by rw [hna.out, hn0]; rfl
            have HC0 : Hid (∀ V, Calls Tryd.prog 59 #[.int .i64 (x.a + 1), .int .i64 x.a] V fun e w' => e = .returned (.slice none 0 0) ∧ V = w') := Lib.hid fun V => by rw [hz0']; exact consecutive_zero _ V
            clear hz0'
            clear HC
            go_wp2_with (first
              | (go_at_call 59; (with_reducible refine (HC0.out _).mono ?_); rintro e w3 ⟨rfl, rfl⟩)
              | (at_builtin; refine wpList_append_own_nil _ rfl _ _ _ rfl (w.heap.size + 2) 3 i0 Tryd.underlying39 hi u5 acc.length (acc.map (Value.int .i64)) rfl ho.out 0 rfl ?_))
            go_roundw
            case rel => exact ⟨1, by omega, by first | rfl | go_num, Lib.hid (by rw [HE.out]; exact ho.out), m2, hbx⟩
            case measure => simp [intOf]
          · go_wp2_with fail
            refine (HC.out _).mono ?_
            rintro e w3 ⟨vc, rfl, hoc, hwc⟩
            have ho3 := Lib.hid (own_keep ho.out hwc)
            have hwc3 : wr.heap.size ≤ w3.heap.size := hwc.size
            have hbx3 := Lib.hid (hbx.out.keep hwc)
            rw [up_len] at hoc
            have HOC := Lib.hid hoc
            clear hoc hwc HC
            obtain ⟨gc, capc, rfl, hgb, hgl⟩ := HOC.out.form hn0
            have HCE := Lib.hid (HOC.out.cells (g := gc) rfl)
            go_wp2_with (at_builtin; refine wpList_append_lies _ rfl _ _ _ rfl (w.heap.size + 2) 3 i0 _ 1 8 Tryd.underlying39 hi hz0 hz1 hz2 rfl (by omega) u5 acc.length (acc.map (Value.int .i64)) rfl (ho3.out) ⟨gc, 0, none⟩ n capc ((upFrom (x.a + 1) n).map (Value.int .i64)) rfl (by simp [up_len]) (HCE.out) (by intro u hu; obtain ⟨z, _, rfl⟩ := List.mem_map.1 hu; rfl) (by omega) (by unfold maxLen; omega) (by omega) (by first | omega | (simp; omega)) (w3.heap.size) (by first | rfl | simp) ?_; intro g1 cap1 w4 hown1 hgrow1 hat1 hlt1)
            have HT : Hid (w4.ownsRow (w.heap.size + 2) 3 1 (.slice (some ⟨g1, 0, none⟩) (LL s0 s1 s2 1).length cap1) (LL s0 s1 s2 1).length ((LL s0 s1 s2 1).map (Value.int .i64))) := Lib.hid (by
              rw [HACC.out, hs0.out, List.length_append, List.map_append, up_len]; exact hown1)
            have HE : Hid ((LL s0 s1 s2 1).length = acc.length + n) := Lib.hid (by rw [HACC.out, hs0.out, List.length_append, up_len])
            rw [HE.out] at HT
            have HB4 := Lib.hid ((hbx3.out.grownK hgrow1 (by omega) (fun j hj => by have := (ho.out.lt j hj).1; omega)))
            have hz4 : w.heap.size + 2 ≤ w4.heap.size := by have := hgrow1.size; (try simp only [World.size_alloc] at this); omega
            clear hown1 hgrow1 hat1
            go_wp2
            go_roundw
            case rel => exact ⟨1, by omega, by first | rfl | go_num, Lib.hid (by rw [HE.out]; exact HT.out), hz4, HB4⟩
            case measure => simp [intOf]
        by_cases e107 : q0 = 107
        · obtain rfl : t0 = 107 := by rw [← ht0.out, e107]; rfl
          have hs0 : Hid (s0 = [0]) := Lib.hid (by rw [← hd0.out, e107]; simp [srcOne])
          clear e107
          go_wp2_with (at_builtin; refine wpList_append_lies _ rfl _ _ _ rfl (w.heap.size + 2) 3 i0 _ 1 8 Tryd.underlying39 hi hz0 hz1 hz2 rfl (by omega) u5 acc.length (acc.map (Value.int .i64)) rfl (ho.out.alloc _) ⟨wr.heap.size, 0, none⟩ 1 1 ([.int .i64 0]) rfl (rfl) (World.news_of_block (cs := #[.int .i64 0]) (t := 3) (fr := (0, 0)) (heap_alloc_new wr _)) (by simp [Value.oneCell']) (by omega) (by unfold maxLen; omega) (by omega) (by first | omega | (simp; omega)) (wr.heap.size + 1) (by first | rfl | simp) ?_; intro g1 cap1 w4 hown1 hgrow1 hat1 hlt1)
          have HT : Hid (w4.ownsRow (w.heap.size + 2) 3 1 (.slice (some ⟨g1, 0, none⟩) (LL s0 s1 s2 1).length cap1) (LL s0 s1 s2 1).length ((LL s0 s1 s2 1).map (Value.int .i64))) := Lib.hid (by
            rw [HACC.out, hs0.out, List.length_append, List.map_append]; exact hown1)
          have HE : Hid ((LL s0 s1 s2 1).length = acc.length + 1) := Lib.hid (by rw [HACC.out, hs0.out, List.length_append]; rfl)
          rw [HE.out] at HT
          have HB4 := Lib.hid ((((hbx.out.keep (below1 _ _)).grownK hgrow1 (by simp; omega) (fun j hj => by have := (ho.out.lt j hj).1; omega))))
          have hz4 : w.heap.size + 2 ≤ w4.heap.size := by have := hgrow1.size; (try simp only [World.size_alloc] at this); omega
          clear hown1 hgrow1 hat1
          go_wp2
          go_roundw
          case rel => exact ⟨1, by omega, by first | rfl | go_num, Lib.hid (by rw [HE.out]; exact HT.out), hz4, HB4⟩
          case measure => simp [intOf]
        have f115 : ((t0 : Int) == 115) = false := by
          rw [beq_eq_false_iff_ne]; intro e; apply e115
          have := ht0.out
          exact UInt8.toNat_inj.1 (by rw [this]; simp; omega)
        have f83 : ((t0 : Int) == 83) = false := by
          rw [beq_eq_false_iff_ne]; intro e; apply e83
          have := ht0.out
          exact UInt8.toNat_inj.1 (by rw [this]; simp; omega)
        have f112 : ((t0 : Int) == 112) = false := by
          rw [beq_eq_false_iff_ne]; intro e; apply e112
          have := ht0.out
          exact UInt8.toNat_inj.1 (by rw [this]; simp; omega)
        have f97 : ((t0 : Int) == 97) = false := by
          rw [beq_eq_false_iff_ne]; intro e; apply e97
          have := ht0.out
          exact UInt8.toNat_inj.1 (by rw [this]; simp; omega)
        have f110 : ((t0 : Int) == 110) = false := by
          rw [beq_eq_false_iff_ne]; intro e; apply e110
          have := ht0.out
          exact UInt8.toNat_inj.1 (by rw [this]; simp; omega)
        have f107 : ((t0 : Int) == 107) = false := by
          rw [beq_eq_false_iff_ne]; intro e; apply e107
          have := ht0.out
          exact UInt8.toNat_inj.1 (by rw [this]; simp; omega)
        have hs0 : Hid (s0 = []) := Lib.hid (by rw [← hd0.out]; simp [srcOne, e115, e83, e112, e97, e110, e107])
        have HE : Hid (LL s0 s1 s2 1 = acc) := Lib.hid (by rw [HACC.out, hs0.out, List.append_nil])
        clear e115 e83 e112 e97 e110 e107
        go_wp2
        go_roundw
        case rel => exact ⟨1, by omega, by first | rfl | go_num, Lib.hid (by rw [HE.out]; exact ho.out), m2, hbx⟩
        case measure => simp [intOf]
      · have hix : ∀ W, (Instr.index 59 (.agg #[.int .i64 x.a, .int .i64 x.b, .int .i64 x.c]) (.int .i64 1)).run Tryd.prog W = .ok (.int .i64 x.b) W := fun _ => by kernel_rfl
        have c0 : (0 : Int) < (s.size : Int) := by omega
        have c1 : (1 : Int) < (s.size : Int) := by omega
        have c2 : (2 : Int) < (s.size : Int) := by omega
        have HACC : Hid (LL s0 s1 s2 2 = acc ++ s1) := Lib.hid (by rw [← hacc.out]; simp [LL])
        by_cases e115 : q1 = 115
        · obtain rfl : t1 = 115 := by rw [← ht1.out, e115]; rfl
          have hs1 : Hid (s1 = [x.b]) := Lib.hid (by rw [← hd1.out, e115]; simp [srcOne])
          clear e115
          go_wp2_with (at_builtin; refine wpList_append_lies _ rfl _ _ _ rfl (w.heap.size + 2) 3 i0 _ 1 8 Tryd.underlying39 hi hz0 hz1 hz2 rfl (by omega) u5 acc.length (acc.map (Value.int .i64)) rfl (ho.out.alloc _) ⟨wr.heap.size, 0, none⟩ 1 1 ([.int .i64 x.b]) rfl (rfl) (World.news_of_block (cs := #[.int .i64 x.b]) (t := 3) (fr := (0, 0)) (heap_alloc_new wr _)) (by simp [Value.oneCell']) (by omega) (by unfold maxLen; omega) (by omega) (by first | omega | (simp; omega)) (wr.heap.size + 1) (by first | rfl | simp) ?_; intro g1 cap1 w4 hown1 hgrow1 hat1 hlt1)
          have HT : Hid (w4.ownsRow (w.heap.size + 2) 3 1 (.slice (some ⟨g1, 0, none⟩) (LL s0 s1 s2 2).length cap1) (LL s0 s1 s2 2).length ((LL s0 s1 s2 2).map (Value.int .i64))) := Lib.hid (by
            rw [HACC.out, hs1.out, List.length_append, List.map_append]; exact hown1)
          have HE : Hid ((LL s0 s1 s2 2).length = acc.length + 1) := Lib.hid (by rw [HACC.out, hs1.out, List.length_append]; rfl)
          rw [HE.out] at HT
          have HB4 := Lib.hid ((((hbx.out.keep (below1 _ _)).grownK hgrow1 (by simp; omega) (fun j hj => by have := (ho.out.lt j hj).1; omega))))
          have hz4 : w.heap.size + 2 ≤ w4.heap.size := by have := hgrow1.size; (try simp only [World.size_alloc] at this); omega
          clear hown1 hgrow1 hat1
          go_wp2
          go_roundw
          case rel => exact ⟨2, by omega, by first | rfl | go_num, Lib.hid (by rw [HE.out]; exact HT.out), hz4, HB4⟩
          case measure => simp [intOf]
        by_cases e83 : q1 = 83
        · obtain rfl : t1 = 83 := by rw [← ht1.out, e83]; rfl
          have hs1 : Hid (s1 = [x.b]) := Lib.hid (by rw [← hd1.out, e83]; simp [srcOne])
          clear e83
          go_wp2_with (at_builtin; refine wpList_append_lies _ rfl _ _ _ rfl (w.heap.size + 2) 3 i0 _ 1 8 Tryd.underlying39 hi hz0 hz1 hz2 rfl (by omega) u5 acc.length (acc.map (Value.int .i64)) rfl (ho.out.alloc _) ⟨wr.heap.size, 0, none⟩ 1 1 ([.int .i64 x.b]) rfl (rfl) (World.news_of_block (cs := #[.int .i64 x.b]) (t := 3) (fr := (0, 0)) (heap_alloc_new wr _)) (by simp [Value.oneCell']) (by omega) (by unfold maxLen; omega) (by omega) (by first | omega | (simp; omega)) (wr.heap.size + 1) (by first | rfl | simp) ?_; intro g1 cap1 w4 hown1 hgrow1 hat1 hlt1)
          have HT : Hid (w4.ownsRow (w.heap.size + 2) 3 1 (.slice (some ⟨g1, 0, none⟩) (LL s0 s1 s2 2).length cap1) (LL s0 s1 s2 2).length ((LL s0 s1 s2 2).map (Value.int .i64))) := Lib.hid (by
            rw [HACC.out, hs1.out, List.length_append, List.map_append]; exact hown1)
          have HE : Hid ((LL s0 s1 s2 2).length = acc.length + 1) := Lib.hid (by rw [HACC.out, hs1.out, List.length_append]; rfl)
          rw [HE.out] at HT
          have HB4 := Lib.hid ((((hbx.out.keep (below1 _ _)).grownK hgrow1 (by simp; omega) (fun j hj => by have := (ho.out.lt j hj).1; omega))))
          have hz4 : w.heap.size + 2 ≤ w4.heap.size := by have := hgrow1.size; (try simp only [World.size_alloc] at this); omega
          clear hown1 hgrow1 hat1
          go_wp2
          go_roundw
          case rel => exact ⟨2, by omega, by first | rfl | go_num, Lib.hid (by rw [HE.out]; exact HT.out), hz4, HB4⟩
          case measure => simp [intOf]
        by_cases e112 : q1 = 112
        · obtain rfl : t1 = 112 := by rw [← ht1.out, e112]; rfl
          have hs1 : Hid (s1 = [x.b, x.b + 1]) := Lib.hid (by rw [← hd1.out, e112]; simp [srcOne])
          have hv2 := (ask1.out.two e112)
          have hv3 := hv2.1
          have hv4 := hv2.2
          clear e112 hv2
          go_wp2_with (at_builtin; refine wpList_append_lies _ rfl _ _ _ rfl (w.heap.size + 2) 3 i0 _ 1 8 Tryd.underlying39 hi hz0 hz1 hz2 rfl (by omega) u5 acc.length (acc.map (Value.int .i64)) rfl (ho.out.alloc _) ⟨wr.heap.size, 0, none⟩ 2 2 ([.int .i64 x.b, .int .i64 (x.b + 1)]) rfl (rfl) (World.news_of_block (cs := #[.int .i64 x.b, .int .i64 (x.b + 1)]) (t := 3) (fr := (0, 0)) (heap_alloc_new wr _)) (by simp [Value.oneCell']) (by omega) (by unfold maxLen; omega) (by omega) (by first | omega | (simp; omega)) (wr.heap.size + 1) (by first | rfl | simp) ?_; intro g1 cap1 w4 hown1 hgrow1 hat1 hlt1)
          have HT : Hid (w4.ownsRow (w.heap.size + 2) 3 1 (.slice (some ⟨g1, 0, none⟩) (LL s0 s1 s2 2).length cap1) (LL s0 s1 s2 2).length ((LL s0 s1 s2 2).map (Value.int .i64))) := Lib.hid (by
            rw [HACC.out, hs1.out, List.length_append, List.map_append]; exact hown1)
          have HE : Hid ((LL s0 s1 s2 2).length = acc.length + 2) := Lib.hid (by rw [HACC.out, hs1.out, List.length_append]; rfl)
          rw [HE.out] at HT
          have HB4 := Lib.hid ((((hbx.out.keep (below1 _ _)).grownK hgrow1 (by simp; omega) (fun j hj => by have := (ho.out.lt j hj).1; omega))))
          have hz4 : w.heap.size + 2 ≤ w4.heap.size := by have := hgrow1.size; (try simp only [World.size_alloc] at this); omega
          clear hown1 hgrow1 hat1
          go_wp2
          go_roundw
          case rel => exact ⟨2, by omega, by first | rfl | go_num, Lib.hid (by rw [HE.out]; exact HT.out), hz4, HB4⟩
          case measure => simp [intOf]
        by_cases e97 : q1 = 97
        · obtain rfl : t1 = 97 := by rw [← ht1.out, e97]; rfl
          have hv2 := (ask1.out.args e97)
          obtain ⟨b0, b1, b2, b3, b4, b5⟩ := hv2
          obtain ⟨gf, of, hAf, hrf⟩ := HP.out.fs.at (by omega)
          subst hAf
          obtain ⟨y00, y01, y02, y03, y10, y11, y12, y13, y14, yb⟩ := hbx.out
          have hh := (hrf x.b.toNat (by omega)).below yb
          have hget := getD_at b0 b1
          rw [hget] at b2 b3
          obtain ⟨fy, hfy⟩ : ∃ fy, p.funcs[x.b.toNat]'(by omega) = fy := ⟨_, rfl⟩
          rw [hfy] at hh b2 b3
          have z1 := hh.c1
          obtain ⟨n, hn⟩ := Int.eq_ofNat_of_zero_le b2
          have hs1 : Hid (s1 = upFrom x.b n) := Lib.hid (by rw [← hd1.out, e97]; unfold srcOne; rw [if_neg (by decide), if_neg (by decide), if_pos rfl, hget, hfy, hn]; rfl)
          rw [hn] at z1 b3
          have n64 : n ≤ 64 := by omega
          have HC : Hid (∀ V, Calls Tryd.prog 59 #[.int .i64 x.b, .int .i64 (n : Int)] V (RetOwn (upFrom x.b n) V)) := Lib.hid fun V => consecutive_any x.b n V b4 (by omega) (by omega)
          clear e97 hget hfy hh yb hrf hn b2 b3
          rcases Nat.eq_zero_or_pos n with hn0 | hn0
          · have HE : Hid (LL s0 s1 s2 2 = acc) := Lib.hid (by rw [HACC.out, hs1.out, hn0]; simp [upFrom])
            obtain rfl := hn0
            clear HC
            go_wp2_with (first
              | (go_at_call 59; (with_reducible refine (consecutive_zero _ _).mono ?_); rintro e w3 ⟨rfl, rfl⟩)
              | (at_builtin; refine wpList_append_own_nil _ rfl _ _ _ rfl (w.heap.size + 2) 3 i0 Tryd.underlying39 hi u5 acc.length (acc.map (Value.int .i64)) rfl ho.out 0 rfl ?_))
            go_roundw
            case rel => exact ⟨2, by omega, by first | rfl | go_num, Lib.hid (by rw [HE.out]; exact ho.out), m2, hbx⟩
            case measure => simp [intOf]
          · go_wp2_with fail
            refine (HC.out _).mono ?_
            rintro e w3 ⟨vc, rfl, hoc, hwc⟩
            have ho3 := Lib.hid (own_keep ho.out hwc)
            have hwc3 : wr.heap.size ≤ w3.heap.size := hwc.size
            have hbx3 := Lib.hid (hbx.out.keep hwc)
            rw [up_len] at hoc
            have HOC := Lib.hid hoc
            clear hoc hwc HC
            obtain ⟨gc, capc, rfl, hgb, hgl⟩ := HOC.out.form hn0
            have HCE := Lib.hid (HOC.out.cells (g := gc) rfl)
            go_wp2_with (at_builtin; refine wpList_append_lies _ rfl _ _ _ rfl (w.heap.size + 2) 3 i0 _ 1 8 Tryd.underlying39 hi hz0 hz1 hz2 rfl (by omega) u5 acc.length (acc.map (Value.int .i64)) rfl (ho3.out) ⟨gc, 0, none⟩ n capc ((upFrom x.b n).map (Value.int .i64)) rfl (by simp [up_len]) (HCE.out) (by intro u hu; obtain ⟨z, _, rfl⟩ := List.mem_map.1 hu; rfl) (by omega) (by unfold maxLen; omega) (by omega) (by first | omega | (simp; omega)) (w3.heap.size) (by first | rfl | simp) ?_; intro g1 cap1 w4 hown1 hgrow1 hat1 hlt1)
            have HT : Hid (w4.ownsRow (w.heap.size + 2) 3 1 (.slice (some ⟨g1, 0, none⟩) (LL s0 s1 s2 2).length cap1) (LL s0 s1 s2 2).length ((LL s0 s1 s2 2).map (Value.int .i64))) := Lib.hid (by
              rw [HACC.out, hs1.out, List.length_append, List.map_append, up_len]; exact hown1)
            have HE : Hid ((LL s0 s1 s2 2).length = acc.length + n) := Lib.hid (by rw [HACC.out, hs1.out, List.length_append, up_len])
            rw [HE.out] at HT
            have HB4 := Lib.hid ((hbx3.out.grownK hgrow1 (by omega) (fun j hj => by have := (ho.out.lt j hj).1; omega)))
            have hz4 : w.heap.size + 2 ≤ w4.heap.size := by have := hgrow1.size; (try simp only [World.size_alloc] at this); omega
            clear hown1 hgrow1 hat1
            go_wp2
            go_roundw
            case rel => exact ⟨2, by omega, by first | rfl | go_num, Lib.hid (by rw [HE.out]; exact HT.out), hz4, HB4⟩
            case measure => simp [intOf]
        by_cases e110 : q1 = 110
        · obtain rfl : t1 = 110 := by rw [← ht1.out, e110]; rfl
          have hv2 := (ask1.out.caps e110)
          obtain ⟨b0, b1, b2, b3⟩ := hv2
          obtain ⟨n, hn⟩ := Int.eq_ofNat_of_zero_le b0
          have hs1 : Hid (s1 = upFrom (x.a + 1) n) := Lib.hid (by rw [← hd1.out, e110]; unfold srcOne; rw [if_neg (by decide), if_neg (by decide), if_neg (by decide), if_pos rfl, hn]; rfl)
          have n64 : n ≤ 64 := by omega
          obtain ⟨y00, y01, y02, y03, y10, y11, y12, y13, y14, yb⟩ := hbx.out
          have HC : Hid (∀ V, Calls Tryd.prog 59 #[.int .i64 (x.a + 1), .int .i64 x.b] V (RetOwn (upFrom (x.a + 1) n) V)) := Lib.hid fun V => by have h := consecutive_any (x.a + 1) n V (by omega) (by omega) (by omega); rwa [← hn] at h
          have hna : Hid (x.b = (n : Int)) := Lib.hid hn
          clear e110 hn yb
          rcases Nat.eq_zero_or_pos n with hn0 | hn0
          · have HE : Hid (LL s0 s1 s2 2 = acc) := Lib.hid (by rw [HACC.out, hs1.out, hn0]; simp [upFrom])
            have hz0' : x.b = 0 := by rw [hna.out, hn0]; rfl
            have HC0 : Hid (∀ V, Calls Tryd.prog 59 #[.int .i64 (x.a + 1), .int .i64 x.b] V fun e w' => e = .returned (.slice none 0 0) ∧ V = w') := Lib.hid fun V => by rw [hz0']; exact consecutive_zero _ V
            clear hz0'
            clear HC
            go_wp2_with (first
              | (go_at_call 59; (with_reducible refine (HC0.out _).mono ?_); rintro e w3 ⟨rfl, rfl⟩)
              | (at_builtin; refine wpList_append_own_nil _ rfl _ _ _ rfl (w.heap.size + 2) 3 i0 Tryd.underlying39 hi u5 acc.length (acc.map (Value.int .i64)) rfl ho.out 0 rfl ?_))
            go_roundw
            case rel => exact ⟨2, by omega, by first | rfl | go_num, Lib.hid (by rw [HE.out]; exact ho.out), m2, hbx⟩
            case measure => simp [intOf]
          · go_wp2_with fail
            refine (HC.out _).mono ?_
            rintro e w3 ⟨vc, rfl, hoc, hwc⟩
            have ho3 := Lib.hid (own_keep ho.out hwc)
            have hwc3 : wr.heap.size ≤ w3.heap.size := hwc.size
            have hbx3 := Lib.hid (hbx.out.keep hwc)
            rw [up_len] at hoc
            have HOC := Lib.hid hoc
            clear hoc hwc HC
            obtain ⟨gc, capc, rfl, hgb, hgl⟩ := HOC.out.form hn0
            have HCE := Lib.hid (HOC.out.cells (g := gc) rfl)
            go_wp2_with (at_builtin; refine wpList_append_lies _ rfl _ _ _ rfl (w.heap.size + 2) 3 i0 _ 1 8 Tryd.underlying39 hi hz0 hz1 hz2 rfl (by omega) u5 acc.length (acc.map (Value.int .i64)) rfl (ho3.out) ⟨gc, 0, none⟩ n capc ((upFrom (x.a + 1) n).map (Value.int .i64)) rfl (by simp [up_len]) (HCE.out) (by intro u hu; obtain ⟨z, _, rfl⟩ := List.mem_map.1 hu; rfl) (by omega) (by unfold maxLen; omega) (by omega) (by first | omega | (simp; omega)) (w3.heap.size) (by first | rfl | simp) ?_; intro g1 cap1 w4 hown1 hgrow1 hat1 hlt1)
            have HT : Hid (w4.ownsRow (w.heap.size + 2) 3 1 (.slice (some ⟨g1, 0, none⟩) (LL s0 s1 s2 2).length cap1) (LL s0 s1 s2 2).length ((LL s0 s1 s2 2).map (Value.int .i64))) := Lib.hid (by
              rw [HACC.out, hs1.out, List.length_append, List.map_append, up_len]; exact hown1)
            have HE : Hid ((LL s0 s1 s2 2).length = acc.length + n) := Lib.hid (by rw [HACC.out, hs1.out, List.length_append, up_len])
            rw [HE.out] at HT
            have HB4 := Lib.hid ((hbx3.out.grownK hgrow1 (by omega) (fun j hj => by have := (ho.out.lt j hj).1; omega)))
            have hz4 : w.heap.size + 2 ≤ w4.heap.size := by have := hgrow1.size; (try simp only [World.size_alloc] at this); omega
            clear hown1 hgrow1 hat1
            go_wp2
            go_roundw
            case rel => exact ⟨2, by omega, by first | rfl | go_num, Lib.hid (by rw [HE.out]; exact HT.out), hz4, HB4⟩
            case measure => simp [intOf]
        by_cases e107 : q1 = 107
        · obtain rfl : t1 = 107 := by rw [← ht1.out, e107]; rfl
          have hs1 : Hid (s1 = [0]) := Lib.hid (by rw [← hd1.out, e107]; simp [srcOne])
          clear e107
          go_wp2_with (at_builtin; refine wpList_append_lies _ rfl _ _ _ rfl (w.heap.size + 2) 3 i0 _ 1 8 Tryd.underlying39 hi hz0 hz1 hz2 rfl (by omega) u5 acc.length (acc.map (Value.int .i64)) rfl (ho.out.alloc _) ⟨wr.heap.size, 0, none⟩ 1 1 ([.int .i64 0]) rfl (rfl) (World.news_of_block (cs := #[.int .i64 0]) (t := 3) (fr := (0, 0)) (heap_alloc_new wr _)) (by simp [Value.oneCell']) (by omega) (by unfold maxLen; omega) (by omega) (by first | omega | (simp; omega)) (wr.heap.size + 1) (by first | rfl | simp) ?_; intro g1 cap1 w4 hown1 hgrow1 hat1 hlt1)
          have HT : Hid (w4.ownsRow (w.heap.size + 2) 3 1 (.slice (some ⟨g1, 0, none⟩) (LL s0 s1 s2 2).length cap1) (LL s0 s1 s2 2).length ((LL s0 s1 s2 2).map (Value.int .i64))) := Lib.hid (by
            rw [HACC.out, hs1.out, List.length_append, List.map_append]; exact hown1)
          have HE : Hid ((LL s0 s1 s2 2).length = acc.length + 1) := Lib.hid (by rw [HACC.out, hs1.out, List.length_append]; rfl)
          rw [HE.out] at HT
          have HB4 := Lib.hid ((((hbx.out.keep (below1 _ _)).grownK hgrow1 (by simp; omega) (fun j hj => by have := (ho.out.lt j hj).1; omega))))
          have hz4 : w.heap.size + 2 ≤ w4.heap.size := by have := hgrow1.size; (try simp only [World.size_alloc] at this); omega
          clear hown1 hgrow1 hat1
          go_wp2
          go_roundw
          case rel => exact ⟨2, by omega, by first | rfl | go_num, Lib.hid (by rw [HE.out]; exact HT.out), hz4, HB4⟩
          case measure => simp [intOf]
        have f115 : ((t1 : Int) == 115) = false := by
          rw [beq_eq_false_iff_ne]; intro e; apply e115
          have := ht1.out
          exact UInt8.toNat_inj.1 (by rw [this]; simp; omega)
        have f83 : ((t1 : Int) == 83) = false := by
          rw [beq_eq_false_iff_ne]; intro e; apply e83
          have := ht1.out
          exact UInt8.toNat_inj.1 (by rw [this]; simp; omega)
        have f112 : ((t1 : Int) == 112) = false := by
          rw [beq_eq_false_iff_ne]; intro e; apply e112
          have := ht1.out
          exact UInt8.toNat_inj.1 (by rw [this]; simp; omega)
        have f97 : ((t1 : Int) == 97) = false := by
          rw [beq_eq_false_iff_ne]; intro e; apply e97
          have := ht1.out
          exact UInt8.toNat_inj.1 (by rw [this]; simp; omega)
        have f110 : ((t1 : Int) == 110) = false := by
          rw [beq_eq_false_iff_ne]; intro e; apply e110
          have := ht1.out
          exact UInt8.toNat_inj.1 (by rw [this]; simp; omega)
        have f107 : ((t1 : Int) == 107) = false := by
          rw [beq_eq_false_iff_ne]; intro e; apply e107
          have := ht1.out
          exact UInt8.toNat_inj.1 (by rw [this]; simp; omega)
        have hs1 : Hid (s1 = []) := Lib.hid (by rw [← hd1.out]; simp [srcOne, e115, e83, e112, e97, e110, e107])
        have HE : Hid (LL s0 s1 s2 2 = acc) := Lib.hid (by rw [HACC.out, hs1.out, List.append_nil])
        clear e115 e83 e112 e97 e110 e107
        go_wp2
        go_roundw
        case rel => exact ⟨2, by omega, by first | rfl | go_num, Lib.hid (by rw [HE.out]; exact ho.out), m2, hbx⟩
        case measure => simp [intOf]
      · have hix : ∀ W, (Instr.index 59 (.agg #[.int .i64 x.a, .int .i64 x.b, .int .i64 x.c]) (.int .i64 2)).run Tryd.prog W = .ok (.int .i64 x.c) W := fun _ => by kernel_rfl
        have c0 : (0 : Int) < (s.size : Int) := by omega
        have c1 : (1 : Int) < (s.size : Int) := by omega
        have c2 : (2 : Int) < (s.size : Int) := by omega
        have HACC : Hid (LL s0 s1 s2 3 = acc ++ s2) := Lib.hid (by rw [← hacc.out]; simp [LL])
        by_cases e115 : q2 = 115
        · obtain rfl : t2 = 115 := by rw [← ht2.out, e115]; rfl
          have hs2 : Hid (s2 = [x.c]) := Lib.hid (by rw [← hd2.out, e115]; simp [srcOne])
          clear e115
          go_wp2_with (at_builtin; refine wpList_append_lies _ rfl _ _ _ rfl (w.heap.size + 2) 3 i0 _ 1 8 Tryd.underlying39 hi hz0 hz1 hz2 rfl (by omega) u5 acc.length (acc.map (Value.int .i64)) rfl (ho.out.alloc _) ⟨wr.heap.size, 0, none⟩ 1 1 ([.int .i64 x.c]) rfl (rfl) (World.news_of_block (cs := #[.int .i64 x.c]) (t := 3) (fr := (0, 0)) (heap_alloc_new wr _)) (by simp [Value.oneCell']) (by omega) (by unfold maxLen; omega) (by omega) (by first | omega | (simp; omega)) (wr.heap.size + 1) (by first | rfl | simp) ?_; intro g1 cap1 w4 hown1 hgrow1 hat1 hlt1)
          have HT : Hid (w4.ownsRow (w.heap.size + 2) 3 1 (.slice (some ⟨g1, 0, none⟩) (LL s0 s1 s2 3).length cap1) (LL s0 s1 s2 3).length ((LL s0 s1 s2 3).map (Value.int .i64))) := Lib.hid (by
            rw [HACC.out, hs2.out, List.length_append, List.map_append]; exact hown1)
          have HE : Hid ((LL s0 s1 s2 3).length = acc.length + 1) := Lib.hid (by rw [HACC.out, hs2.out, List.length_append]; rfl)
          rw [HE.out] at HT
          have HB4 := Lib.hid ((((hbx.out.keep (below1 _ _)).grownK hgrow1 (by simp; omega) (fun j hj => by have := (ho.out.lt j hj).1; omega))))
          have hz4 : w.heap.size + 2 ≤ w4.heap.size := by have := hgrow1.size; (try simp only [World.size_alloc] at this); omega
          clear hown1 hgrow1 hat1
          go_wp2
          go_roundw
          case rel => exact ⟨3, by omega, by first | rfl | go_num, Lib.hid (by rw [HE.out]; exact HT.out), hz4, HB4⟩
          case measure => simp [intOf]
        by_cases e83 : q2 = 83
        · obtain rfl : t2 = 83 := by rw [← ht2.out, e83]; rfl
          have hs2 : Hid (s2 = [x.c]) := Lib.hid (by rw [← hd2.out, e83]; simp [srcOne])
          clear e83
          go_wp2_with (at_builtin; refine wpList_append_lies _ rfl _ _ _ rfl (w.heap.size + 2) 3 i0 _ 1 8 Tryd.underlying39 hi hz0 hz1 hz2 rfl (by omega) u5 acc.length (acc.map (Value.int .i64)) rfl (ho.out.alloc _) ⟨wr.heap.size, 0, none⟩ 1 1 ([.int .i64 x.c]) rfl (rfl) (World.news_of_block (cs := #[.int .i64 x.c]) (t := 3) (fr := (0, 0)) (heap_alloc_new wr _)) (by simp [Value.oneCell']) (by omega) (by unfold maxLen; omega) (by omega) (by first | omega | (simp; omega)) (wr.heap.size + 1) (by first | rfl | simp) ?_; intro g1 cap1 w4 hown1 hgrow1 hat1 hlt1)
          have HT : Hid (w4.ownsRow (w.heap.size + 2) 3 1 (.slice (some ⟨g1, 0, none⟩) (LL s0 s1 s2 3).length cap1) (LL s0 s1 s2 3).length ((LL s0 s1 s2 3).map (Value.int .i64))) := Lib.hid (by
            rw [HACC.out, hs2.out, List.length_append, List.map_append]; exact hown1)
          have HE : Hid ((LL s0 s1 s2 3).length = acc.length + 1) := Lib.hid (by rw [HACC.out, hs2.out, List.length_append]; rfl)
          rw [HE.out] at HT
          have HB4 := Lib.hid ((((hbx.out.keep (below1 _ _)).grownK hgrow1 (by simp; omega) (fun j hj => by have := (ho.out.lt j hj).1; omega))))
          have hz4 : w.heap.size + 2 ≤ w4.heap.size := by have := hgrow1.size; (try simp only [World.size_alloc] at this); omega
          clear hown1 hgrow1 hat1
          go_wp2
          go_roundw
          case rel => exact ⟨3, by omega, by first | rfl | go_num, Lib.hid (by rw [HE.out]; exact HT.out), hz4, HB4⟩
          case measure => simp [intOf]
        by_cases e112 : q2 = 112
        · obtain rfl : t2 = 112 := by rw [← ht2.out, e112]; rfl
          have hs2 : Hid (s2 = [x.c, x.c + 1]) := Lib.hid (by rw [← hd2.out, e112]; simp [srcOne])
          have hv2 := (ask2.out.two e112)
          have hv3 := hv2.1
          have hv4 := hv2.2
          clear e112 hv2
          go_wp2_with (at_builtin; refine wpList_append_lies _ rfl _ _ _ rfl (w.heap.size + 2) 3 i0 _ 1 8 Tryd.underlying39 hi hz0 hz1 hz2 rfl (by omega) u5 acc.length (acc.map (Value.int .i64)) rfl (ho.out.alloc _) ⟨wr.heap.size, 0, none⟩ 2 2 ([.int .i64 x.c, .int .i64 (x.c + 1)]) rfl (rfl) (World.news_of_block (cs := #[.int .i64 x.c, .int .i64 (x.c + 1)]) (t := 3) (fr := (0, 0)) (heap_alloc_new wr _)) (by simp [Value.oneCell']) (by omega) (by unfold maxLen; omega) (by omega) (by first | omega | (simp; omega)) (wr.heap.size + 1) (by first | rfl | simp) ?_; intro g1 cap1 w4 hown1 hgrow1 hat1 hlt1)
          have HT : Hid (w4.ownsRow (w.heap.size + 2) 3 1 (.slice (some ⟨g1, 0, none⟩) (LL s0 s1 s2 3).length cap1) (LL s0 s1 s2 3).length ((LL s0 s1 s2 3).map (Value.int .i64))) := Lib.hid (by
            rw [HACC.out, hs2.out, List.length_append, List.map_append]; exact hown1)
          have HE : Hid ((LL s0 s1 s2 3).length = acc.length + 2) := Lib.hid (by rw [HACC.out, hs2.out, List.length_append]; rfl)
          rw [HE.out] at HT
          have HB4 := Lib.hid ((((hbx.out.keep (below1 _ _)).grownK hgrow1 (by simp; omega) (fun j hj => by have := (ho.out.lt j hj).1; omega))))
          have hz4 : w.heap.size + 2 ≤ w4.heap.size := by have := hgrow1.size; (try simp only [World.size_alloc] at this); omega
          clear hown1 hgrow1 hat1
          go_wp2
          go_roundw
          case rel => exact ⟨3, by omega, by first | rfl | go_num, Lib.hid (by rw [HE.out]; exact HT.out), hz4, HB4⟩
          case measure => simp [intOf]
        by_cases e97 : q2 = 97
        · obtain rfl : t2 = 97 := by rw [← ht2.out, e97]; rfl
          have hv2 := (ask2.out.args e97)
          obtain ⟨b0, b1, b2, b3, b4, b5⟩ := hv2
          obtain ⟨gf, of, hAf, hrf⟩ := HP.out.fs.at (by omega)
          subst hAf
          obtain ⟨y00, y01, y02, y03, y10, y11, y12, y13, y14, yb⟩ := hbx.out
          have hh := (hrf x.b.toNat (by omega)).below yb
          have hget := getD_at b0 b1
          rw [hget] at b2 b3
          obtain ⟨fy, hfy⟩ : ∃ fy, p.funcs[x.b.toNat]'(by omega) = fy := ⟨_, rfl⟩
          rw [hfy] at hh b2 b3
          have z1 := hh.c1
          obtain ⟨n, hn⟩ := Int.eq_ofNat_of_zero_le b2
          have hs2 : Hid (s2 = upFrom x.c n) := Lib.hid (by rw [← hd2.out, e97]; unfold srcOne; rw [if_neg (by decide), if_neg (by decide), if_pos rfl, hget, hfy, hn]; rfl)
          rw [hn] at z1 b3
          have n64 : n ≤ 64 := by omega
          have HC : Hid (∀ V, Calls Tryd.prog 59 #[.int .i64 x.c, .int .i64 (n : Int)] V (RetOwn (upFrom x.c n) V)) := Lib.hid fun V => consecutive_any x.c n V b4 (by omega) (by omega)
          clear e97 hget hfy hh yb hrf hn b2 b3
          rcases Nat.eq_zero_or_pos n with hn0 | hn0
          · have HE : Hid (LL s0 s1 s2 3 = acc) := Lib.hid (by rw [HACC.out, hs2.out, hn0]; simp [upFrom])
            obtain rfl := hn0
            clear HC
            go_wp2_with (first
              | (go_at_call 59; (with_reducible refine (consecutive_zero _ _).mono ?_); rintro e w3 ⟨rfl, rfl⟩)
              | (at_builtin; refine wpList_append_own_nil _ rfl _ _ _ rfl (w.heap.size + 2) 3 i0 Tryd.underlying39 hi u5 acc.length (acc.map (Value.int .i64)) rfl ho.out 0 rfl ?_))
            go_roundw
            case rel => exact ⟨3, by omega, by first | rfl | go_num, Lib.hid (by rw [HE.out]; exact ho.out), m2, hbx⟩
            case measure => simp [intOf]
          · go_wp2_with fail
            refine (HC.out _).mono ?_
            rintro e w3 ⟨vc, rfl, hoc, hwc⟩
            have ho3 := Lib.hid (own_keep ho.out hwc)
            have hwc3 : wr.heap.size ≤ w3.heap.size := hwc.size
            have hbx3 := Lib.hid (hbx.out.keep hwc)
            rw [up_len] at hoc
            have HOC := Lib.hid hoc
            clear hoc hwc HC
            obtain ⟨gc, capc, rfl, hgb, hgl⟩ := HOC.out.form hn0
            have HCE := Lib.hid (HOC.out.cells (g := gc) rfl)
            go_wp2_with (at_builtin; refine wpList_append_lies _ rfl _ _ _ rfl (w.heap.size + 2) 3 i0 _ 1 8 Tryd.underlying39 hi hz0 hz1 hz2 rfl (by omega) u5 acc.length (acc.map (Value.int .i64)) rfl (ho3.out) ⟨gc, 0, none⟩ n capc ((upFrom x.c n).map (Value.int .i64)) rfl (by simp [up_len]) (HCE.out) (by intro u hu; obtain ⟨z, _, rfl⟩ := List.mem_map.1 hu; rfl) (by omega) (by unfold maxLen; omega) (by omega) (by first | omega | (simp; omega)) (w3.heap.size) (by first | rfl | simp) ?_; intro g1 cap1 w4 hown1 hgrow1 hat1 hlt1)
            have HT : Hid (w4.ownsRow (w.heap.size + 2) 3 1 (.slice (some ⟨g1, 0, none⟩) (LL s0 s1 s2 3).length cap1) (LL s0 s1 s2 3).length ((LL s0 s1 s2 3).map (Value.int .i64))) := Lib.hid (by
              rw [HACC.out, hs2.out, List.length_append, List.map_append, up_len]; exact hown1)
            have HE : Hid ((LL s0 s1 s2 3).length = acc.length + n) := Lib.hid (by rw [HACC.out, hs2.out, List.length_append, up_len])
            rw [HE.out] at HT
            have HB4 := Lib.hid ((hbx3.out.grownK hgrow1 (by omega) (fun j hj => by have := (ho.out.lt j hj).1; omega)))
            have hz4 : w.heap.size + 2 ≤ w4.heap.size := by have := hgrow1.size; (try simp only [World.size_alloc] at this); omega
            clear hown1 hgrow1 hat1
            go_wp2
            go_roundw
            case rel => exact ⟨3, by omega, by first | rfl | go_num, Lib.hid (by rw [HE.out]; exact HT.out), hz4, HB4⟩
            case measure => simp [intOf]
        by_cases e110 : q2 = 110
        · obtain rfl : t2 = 110 := by rw [← ht2.out, e110]; rfl
          have hv2 := (ask2.out.caps e110)
          obtain ⟨b0, b1, b2, b3⟩ := hv2
          obtain ⟨n, hn⟩ := Int.eq_ofNat_of_zero_le b0
          have hs2 : Hid (s2 = upFrom (x.a + 1) n) := Lib.hid (by rw [← hd2.out, e110]; unfold srcOne; rw [if_neg (by decide), if_neg (by decide), if_neg (by decide), if_pos rfl, hn]; rfl)
          have n64 : n ≤ 64 := by omega
          obtain ⟨y00, y01, y02, y03, y10, y11, y12, y13, y14, yb⟩ := hbx.out
          have HC : Hid (∀ V, Calls Tryd.prog 59 #[.int .i64 (x.a + 1), .int .i64 x.c] V (RetOwn (upFrom (x.a + 1) n) V)) := Lib.hid fun V => by have h := consecutive_any (x.a + 1) n V (by omega) (by omega) (by omega); rwa [← hn] at h
          have hna : Hid (x.c = (n : Int)) := Lib.hid hn
          clear e110 hn yb
          rcases Nat.eq_zero_or_pos n with hn0 | hn0
          · have HE : Hid (LL s0 s1 s2 3 = acc) := Lib.hid (by rw [HACC.out, hs2.out, hn0]; simp [upFrom])
            have hz0' : x.c = 0 := by rw [hna.out, hn0]; rfl
            have HC0 : Hid (∀ V, Calls Tryd.prog 59 #[.int .i64 (x.a + 1), .int .i64 x.c] V fun e w' => e = .returned (.slice none 0 0) ∧ V = w') := Lib.hid fun V => by rw [hz0']; exact consecutive_zero _ V
            clear hz0'
            clear HC
            go_wp2_with (first
              | (go_at_call 59; (with_reducible refine (HC0.out _).mono ?_); rintro e w3 ⟨rfl, rfl⟩)
              | (at_builtin; refine wpList_append_own_nil _ rfl _ _ _ rfl (w.heap.size + 2) 3 i0 Tryd.underlying39 hi u5 acc.length (acc.map (Value.int .i64)) rfl ho.out 0 rfl ?_))
            go_roundw
            case rel => exact ⟨3, by omega, by first | rfl | go_num, Lib.hid (by rw [HE.out]; exact ho.out), m2, hbx⟩
            case measure => simp [intOf]
          · go_wp2_with fail
            refine (HC.out _).mono ?_
            rintro e w3 ⟨vc, rfl, hoc, hwc⟩
            have ho3 := Lib.hid (own_keep ho.out hwc)
            have hwc3 : wr.heap.size ≤ w3.heap.size := hwc.size
            have hbx3 := Lib.hid (hbx.out.keep hwc)
            rw [up_len] at hoc
            have HOC := Lib.hid hoc
            clear hoc hwc HC
            obtain ⟨gc, capc, rfl, hgb, hgl⟩ := HOC.out.form hn0
            have HCE := Lib.hid (HOC.out.cells (g := gc) rfl)
            go_wp2_with (at_builtin; refine wpList_append_lies _ rfl _ _ _ rfl (w.heap.size + 2) 3 i0 _ 1 8 Tryd.underlying39 hi hz0 hz1 hz2 rfl (by omega) u5 acc.length (acc.map (Value.int .i64)) rfl (ho3.out) ⟨gc, 0, none⟩ n capc ((upFrom (x.a + 1) n).map (Value.int .i64)) rfl (by simp [up_len]) (HCE.out) (by intro u hu; obtain ⟨z, _, rfl⟩ := List.mem_map.1 hu; rfl) (by omega) (by unfold maxLen; omega) (by omega) (by first | omega | (simp; omega)) (w3.heap.size) (by first | rfl | simp) ?_; intro g1 cap1 w4 hown1 hgrow1 hat1 hlt1)
            have HT : Hid (w4.ownsRow (w.heap.size + 2) 3 1 (.slice (some ⟨g1, 0, none⟩) (LL s0 s1 s2 3).length cap1) (LL s0 s1 s2 3).length ((LL s0 s1 s2 3).map (Value.int .i64))) := Lib.hid (by
              rw [HACC.out, hs2.out, List.length_append, List.map_append, up_len]; exact hown1)
            have HE : Hid ((LL s0 s1 s2 3).length = acc.length + n) := Lib.hid (by rw [HACC.out, hs2.out, List.length_append, up_len])
            rw [HE.out] at HT
            have HB4 := Lib.hid ((hbx3.out.grownK hgrow1 (by omega) (fun j hj => by have := (ho.out.lt j hj).1; omega)))
            have hz4 : w.heap.size + 2 ≤ w4.heap.size := by have := hgrow1.size; (try simp only [World.size_alloc] at this); omega
            clear hown1 hgrow1 hat1
            go_wp2
            go_roundw
            case rel => exact ⟨3, by omega, by first | rfl | go_num, Lib.hid (by rw [HE.out]; exact HT.out), hz4, HB4⟩
            case measure => simp [intOf]
        by_cases e107 : q2 = 107
        · obtain rfl : t2 = 107 := by rw [← ht2.out, e107]; rfl
          have hs2 : Hid (s2 = [0]) := Lib.hid (by rw [← hd2.out, e107]; simp [srcOne])
          clear e107
          go_wp2_with (at_builtin; refine wpList_append_lies _ rfl _ _ _ rfl (w.heap.size + 2) 3 i0 _ 1 8 Tryd.underlying39 hi hz0 hz1 hz2 rfl (by omega) u5 acc.length (acc.map (Value.int .i64)) rfl (ho.out.alloc _) ⟨wr.heap.size, 0, none⟩ 1 1 ([.int .i64 0]) rfl (rfl) (World.news_of_block (cs := #[.int .i64 0]) (t := 3) (fr := (0, 0)) (heap_alloc_new wr _)) (by simp [Value.oneCell']) (by omega) (by unfold maxLen; omega) (by omega) (by first | omega | (simp; omega)) (wr.heap.size + 1) (by first | rfl | simp) ?_; intro g1 cap1 w4 hown1 hgrow1 hat1 hlt1)
          have HT : Hid (w4.ownsRow (w.heap.size + 2) 3 1 (.slice (some ⟨g1, 0, none⟩) (LL s0 s1 s2 3).length cap1) (LL s0 s1 s2 3).length ((LL s0 s1 s2 3).map (Value.int .i64))) := Lib.hid (by
            rw [HACC.out, hs2.out, List.length_append, List.map_append]; exact hown1)
          have HE : Hid ((LL s0 s1 s2 3).length = acc.length + 1) := Lib.hid (by rw [HACC.out, hs2.out, List.length_append]; rfl)
          rw [HE.out] at HT
          have HB4 := Lib.hid ((((hbx.out.keep (below1 _ _)).grownK hgrow1 (by simp; omega) (fun j hj => by have := (ho.out.lt j hj).1; omega))))
          have hz4 : w.heap.size + 2 ≤ w4.heap.size := by have := hgrow1.size; (try simp only [World.size_alloc] at this); omega
          clear hown1 hgrow1 hat1
          go_wp2
          go_roundw
          case rel => exact ⟨3, by omega, by first | rfl | go_num, Lib.hid (by rw [HE.out]; exact HT.out), hz4, HB4⟩
          case measure => simp [intOf]
        have f115 : ((t2 : Int) == 115) = false := by
          rw [beq_eq_false_iff_ne]; intro e; apply e115
          have := ht2.out
          exact UInt8.toNat_inj.1 (by rw [this]; simp; omega)
        have f83 : ((t2 : Int) == 83) = false := by
          rw [beq_eq_false_iff_ne]; intro e; apply e83
          have := ht2.out
          exact UInt8.toNat_inj.1 (by rw [this]; simp; omega)
        have f112 : ((t2 : Int) == 112) = false := by
          rw [beq_eq_false_iff_ne]; intro e; apply e112
          have := ht2.out
          exact UInt8.toNat_inj.1 (by rw [this]; simp; omega)
        have f97 : ((t2 : Int) == 97) = false := by
          rw [beq_eq_false_iff_ne]; intro e; apply e97
          have := ht2.out
          exact UInt8.toNat_inj.1 (by rw [this]; simp; omega)
        have f110 : ((t2 : Int) == 110) = false := by
          rw [beq_eq_false_iff_ne]; intro e; apply e110
          have := ht2.out
          exact UInt8.toNat_inj.1 (by rw [this]; simp; omega)
        have f107 : ((t2 : Int) == 107) = false := by
          rw [beq_eq_false_iff_ne]; intro e; apply e107
          have := ht2.out
          exact UInt8.toNat_inj.1 (by rw [this]; simp; omega)
        have hs2 : Hid (s2 = []) := Lib.hid (by rw [← hd2.out]; simp [srcOne, e115, e83, e112, e97, e110, e107])
        have HE : Hid (LL s0 s1 s2 3 = acc) := Lib.hid (by rw [HACC.out, hs2.out, List.append_nil])
        clear e115 e83 e112 e97 e110 e107
        go_wp2
        go_roundw
        case rel => exact ⟨3, by omega, by first | rfl | go_num, Lib.hid (by rw [HE.out]; exact ho.out), m2, hbx⟩
        case measure => simp [intOf]
    · obtain rfl : k = 3 := by omega
      go_wp2
      go_ret
      refine ⟨_, rfl, ?_, hbx.out.bel⟩
      have : acc = s0 ++ s1 ++ s2 := by rw [← hacc.out]; simp [LL]
      rw [← this]
      exact own_weak ho.out (by omega)
/-! ### destinations -/
def dstOne (q : UInt8) (v : Int) : List Int := if q = 100 ∨ q = 68 then [v] else []
theorem dstOne_len {q : UInt8} {v : Int} : (dstOne q v).length ≤ 64 := by unfold dstOne; split <;> simp
set_option maxRecDepth 100000 in
set_option maxHeartbeats 8000000 in
theorem destinations_any (x : In) (w : World) (q0 q1 q2 : UInt8) (hq : rolesP x = [q0, q1, q2]) :
    Calls Tryd.prog 41 #[xv x] w (RetOwn (dstOne q0 x.a ++ dstOne q1 x.b ++ dstOne q2 x.c) w) := by
  have HN := Lib.hid (BX1.new x w)
  have l0 := dstOne_len (q := q0) (v := x.a)
  have l1 := dstOne_len (q := q1) (v := x.b)
  have l2 := dstOne_len (q := q2) (v := x.c)
  obtain ⟨s0, hd0⟩ : ∃ l, dstOne q0 x.a = l := ⟨_, rfl⟩
  obtain ⟨s1, hd1⟩ : ∃ l, dstOne q1 x.b = l := ⟨_, rfl⟩
  obtain ⟨s2, hd2⟩ : ∃ l, dstOne q2 x.c = l := ⟨_, rfl⟩
  rw [hd0, hd1, hd2]
  rw [hd0] at l0
  rw [hd1] at l1
  rw [hd2] at l2
  have hd0 := Lib.hid hd0
  have hd1 := Lib.hid hd1
  have hd2 := Lib.hid hd2
  obtain ⟨i0, hi, hz0, hz1, hz2⟩ := info_parts infoI
  obtain ⟨s, hs⟩ : ∃ s, txt [q0, q1, q2] = s := ⟨_, rfl⟩
  have HR : Hid (∀ V, Calls Tryd.prog 57 #[xv x] V fun e w' => e = .returned (.string s) ∧ Below V.heap.size V w') := Lib.hid fun V => by have := rolesOf_any x V; rw [hq, hs] at this; exact this
  have HO : Hid (∀ V, Calls Tryd.prog 58 #[xv x] V fun e w' => e = .returned (ov x) ∧ Below V.heap.size V w') := Lib.hid fun V => operands_any x V
  have z3 : s.size = 3 := by rw [← hs]; rfl
  have i0' : s[0].toNat = q0.toNat := by subst hs; rfl
  have i1 : s[1].toNat = q1.toNat := by subst hs; rfl
  have i2 : s[2].toNat = q2.toNat := by subst hs; rfl
  obtain ⟨t0, ht0⟩ : ∃ t, q0.toNat = t := ⟨_, rfl⟩
  obtain ⟨t1, ht1⟩ : ∃ t, q1.toNat = t := ⟨_, rfl⟩
  obtain ⟨t2, ht2⟩ : ∃ t, q2.toNat = t := ⟨_, rfl⟩
  rw [ht0] at i0'
  rw [ht1] at i1
  rw [ht2] at i2
  have ht0 := Lib.hid ht0
  have ht1 := Lib.hid ht1
  have ht2 := Lib.hid ht2
  clear hs hq
  go_enter Tryd.func41, Tryd.ntmps41
  go_wp2_with fail
  refine (HR.out _).mono ?_
  rintro e w1 ⟨rfl, hw1⟩
  have hbx1 := Lib.hid (HN.out.keep hw1)
  have hz1 := hw1.size
  simp only [World.size_alloc] at hz1
  obtain ⟨y10, y11, y12, y13, y14, yb⟩ := hbx1.out
  clear yb hw1
  go_wp2_with fail
  refine (HO.out _).mono ?_
  rintro e w2 ⟨rfl, hw2⟩
  have hbx2 := Lib.hid (hbx1.out.keep hw2)
  have hz2' := hw2.size
  clear hw2 y10 y11 y12 y13 y14 hbx1 HR HO HN
  have m2 : w.heap.size + 1 ≤ w2.heap.size := by omega
  go_wp2
  go_loopw [3, 11] (fun v i wr => ∃ k : Nat, k ≤ 3 ∧ i = .int .i64 k ∧ Hid (wr.ownsRow (w.heap.size + 1) 3 1 v (LL s0 s1 s2 k).length ((LL s0 s1 s2 k).map (Value.int .i64))) ∧ w.heap.size + 1 ≤ wr.heap.size ∧ Hid (BX1 x w wr)) (fun _ i _ => 3 - (intOf i).toNat)
  case atStart => exact ⟨0, by omega, rfl, Lib.hid (World.ownsRow_nil _ _ _ _), m2, hbx2⟩
  case round =>
    clear hbx2 m2 hz1 hz2'
    obtain ⟨k, hk, rfl, ho, m2, hbx⟩ := hrel
    obtain ⟨acc, hacc⟩ : ∃ acc, LL s0 s1 s2 k = acc := ⟨_, rfl⟩
    rw [hacc] at ho
    have hal : acc.length ≤ 192 := by rw [← hacc]; unfold LL; split; simp; split; omega; split; simp; omega; simp; omega
    have hacc := Lib.hid hacc
    by_cases hlt : k < 3
    · obtain rfl | rfl | rfl : k = 0 ∨ k = 1 ∨ k = 2 := by omega
      · have hix : ∀ W, (Instr.index 59 (.agg #[.int .i64 x.a, .int .i64 x.b, .int .i64 x.c]) (.int .i64 0)).run Tryd.prog W = .ok (.int .i64 x.a) W := fun _ => by kernel_rfl
        have c0 : (0 : Int) < (s.size : Int) := by omega
        have c1 : (1 : Int) < (s.size : Int) := by omega
        have c2 : (2 : Int) < (s.size : Int) := by omega
        have HACC : Hid (LL s0 s1 s2 1 = acc ++ s0) := Lib.hid (by rw [← hacc.out]; simp [LL])
        by_cases e100 : q0 = 100
        · obtain rfl : t0 = 100 := by rw [← ht0.out, e100]; rfl
          have hs0 : Hid (s0 = [x.a]) := Lib.hid (by rw [← hd0.out, e100]; simp [dstOne])
          clear e100
          go_wp2_with (at_builtin; refine wpList_append_lies _ rfl _ _ _ rfl (w.heap.size + 1) 3 i0 _ 1 8 Tryd.underlying39 hi hz0 hz1 hz2 rfl (by omega) u3 acc.length (acc.map (Value.int .i64)) rfl (ho.out.alloc _) ⟨wr.heap.size, 0, none⟩ 1 1 ([.int .i64 x.a]) rfl (rfl) (World.news_of_block (cs := #[.int .i64 x.a]) (t := 3) (fr := (0, 0)) (heap_alloc_new wr _)) (by simp [Value.oneCell']) (by omega) (by unfold maxLen; omega) (by omega) (by first | omega | (simp; omega)) (wr.heap.size + 1) (by first | rfl | simp) ?_; intro g1 cap1 w4 hown1 hgrow1 hat1 hlt1)
          have HT : Hid (w4.ownsRow (w.heap.size + 1) 3 1 (.slice (some ⟨g1, 0, none⟩) (LL s0 s1 s2 1).length cap1) (LL s0 s1 s2 1).length ((LL s0 s1 s2 1).map (Value.int .i64))) := Lib.hid (by
            rw [HACC.out, hs0.out, List.length_append, List.map_append]; exact hown1)
          have HE : Hid ((LL s0 s1 s2 1).length = acc.length + 1) := Lib.hid (by rw [HACC.out, hs0.out, List.length_append]; rfl)
          rw [HE.out] at HT
          have HB4 := Lib.hid ((((hbx.out.keep (below1 _ _)).grownK hgrow1 (by simp; omega) (fun j hj => by have := (ho.out.lt j hj).1; omega))))
          have hz4 : w.heap.size + 1 ≤ w4.heap.size := by have := hgrow1.size; (try simp only [World.size_alloc] at this); omega
          clear hown1 hgrow1 hat1
          go_wp2
          go_roundw
          case rel => exact ⟨1, by omega, by first | rfl | go_num, Lib.hid (by rw [HE.out]; exact HT.out), hz4, HB4⟩
          case measure => simp [intOf]
        by_cases e68 : q0 = 68
        · obtain rfl : t0 = 68 := by rw [← ht0.out, e68]; rfl
          have hs0 : Hid (s0 = [x.a]) := Lib.hid (by rw [← hd0.out, e68]; simp [dstOne])
          clear e68
          go_wp2_with (at_builtin; refine wpList_append_lies _ rfl _ _ _ rfl (w.heap.size + 1) 3 i0 _ 1 8 Tryd.underlying39 hi hz0 hz1 hz2 rfl (by omega) u3 acc.length (acc.map (Value.int .i64)) rfl (ho.out.alloc _) ⟨wr.heap.size, 0, none⟩ 1 1 ([.int .i64 x.a]) rfl (rfl) (World.news_of_block (cs := #[.int .i64 x.a]) (t := 3) (fr := (0, 0)) (heap_alloc_new wr _)) (by simp [Value.oneCell']) (by omega) (by unfold maxLen; omega) (by omega) (by first | omega | (simp; omega)) (wr.heap.size + 1) (by first | rfl | simp) ?_; intro g1 cap1 w4 hown1 hgrow1 hat1 hlt1)
          have HT : Hid (w4.ownsRow (w.heap.size + 1) 3 1 (.slice (some ⟨g1, 0, none⟩) (LL s0 s1 s2 1).length cap1) (LL s0 s1 s2 1).length ((LL s0 s1 s2 1).map (Value.int .i64))) := Lib.hid (by
            rw [HACC.out, hs0.out, List.length_append, List.map_append]; exact hown1)
          have HE : Hid ((LL s0 s1 s2 1).length = acc.length + 1) := Lib.hid (by rw [HACC.out, hs0.out, List.length_append]; rfl)
          rw [HE.out] at HT
          have HB4 := Lib.hid ((((hbx.out.keep (below1 _ _)).grownK hgrow1 (by simp; omega) (fun j hj => by have := (ho.out.lt j hj).1; omega))))
          have hz4 : w.heap.size + 1 ≤ w4.heap.size := by have := hgrow1.size; (try simp only [World.size_alloc] at this); omega
          clear hown1 hgrow1 hat1
          go_wp2
          go_roundw
          case rel => exact ⟨1, by omega, by first | rfl | go_num, Lib.hid (by rw [HE.out]; exact HT.out), hz4, HB4⟩
          case measure => simp [intOf]
        have f100 : ((t0 : Int) == 100) = false := by
          rw [beq_eq_false_iff_ne]; intro e; apply e100
          have := ht0.out
          exact UInt8.toNat_inj.1 (by rw [this]; simp; omega)
        have f68 : ((t0 : Int) == 68) = false := by
          rw [beq_eq_false_iff_ne]; intro e; apply e68
          have := ht0.out
          exact UInt8.toNat_inj.1 (by rw [this]; simp; omega)
        have hs0 : Hid (s0 = []) := Lib.hid (by rw [← hd0.out]; simp [dstOne, e100, e68])
        have HE : Hid (LL s0 s1 s2 1 = acc) := Lib.hid (by rw [HACC.out, hs0.out, List.append_nil])
        clear e100 e68
        go_wp2
        go_roundw
        case rel => exact ⟨1, by omega, by first | rfl | go_num, Lib.hid (by rw [HE.out]; exact ho.out), m2, hbx⟩
        case measure => simp [intOf]
      · have hix : ∀ W, (Instr.index 59 (.agg #[.int .i64 x.a, .int .i64 x.b, .int .i64 x.c]) (.int .i64 1)).run Tryd.prog W = .ok (.int .i64 x.b) W := fun _ => by kernel_rfl
        have c0 : (0 : Int) < (s.size : Int) := by omega
        have c1 : (1 : Int) < (s.size : Int) := by omega
        have c2 : (2 : Int) < (s.size : Int) := by omega
        have HACC : Hid (LL s0 s1 s2 2 = acc ++ s1) := Lib.hid (by rw [← hacc.out]; simp [LL])
        by_cases e100 : q1 = 100
        · obtain rfl : t1 = 100 := by rw [← ht1.out, e100]; rfl
          have hs1 : Hid (s1 = [x.b]) := Lib.hid (by rw [← hd1.out, e100]; simp [dstOne])
          clear e100
          go_wp2_with (at_builtin; refine wpList_append_lies _ rfl _ _ _ rfl (w.heap.size + 1) 3 i0 _ 1 8 Tryd.underlying39 hi hz0 hz1 hz2 rfl (by omega) u3 acc.length (acc.map (Value.int .i64)) rfl (ho.out.alloc _) ⟨wr.heap.size, 0, none⟩ 1 1 ([.int .i64 x.b]) rfl (rfl) (World.news_of_block (cs := #[.int .i64 x.b]) (t := 3) (fr := (0, 0)) (heap_alloc_new wr _)) (by simp [Value.oneCell']) (by omega) (by unfold maxLen; omega) (by omega) (by first | omega | (simp; omega)) (wr.heap.size + 1) (by first | rfl | simp) ?_; intro g1 cap1 w4 hown1 hgrow1 hat1 hlt1)
          have HT : Hid (w4.ownsRow (w.heap.size + 1) 3 1 (.slice (some ⟨g1, 0, none⟩) (LL s0 s1 s2 2).length cap1) (LL s0 s1 s2 2).length ((LL s0 s1 s2 2).map (Value.int .i64))) := Lib.hid (by
            rw [HACC.out, hs1.out, List.length_append, List.map_append]; exact hown1)
          have HE : Hid ((LL s0 s1 s2 2).length = acc.length + 1) := Lib.hid (by rw [HACC.out, hs1.out, List.length_append]; rfl)
          rw [HE.out] at HT
          have HB4 := Lib.hid ((((hbx.out.keep (below1 _ _)).grownK hgrow1 (by simp; omega) (fun j hj => by have := (ho.out.lt j hj).1; omega))))
          have hz4 : w.heap.size + 1 ≤ w4.heap.size := by have := hgrow1.size; (try simp only [World.size_alloc] at this); omega
          clear hown1 hgrow1 hat1
          go_wp2
          go_roundw
          case rel => exact ⟨2, by omega, by first | rfl | go_num, Lib.hid (by rw [HE.out]; exact HT.out), hz4, HB4⟩
          case measure => simp [intOf]
        by_cases e68 : q1 = 68
        · obtain rfl : t1 = 68 := by rw [← ht1.out, e68]; rfl
          have hs1 : Hid (s1 = [x.b]) := Lib.hid (by rw [← hd1.out, e68]; simp [dstOne])
          clear e68
          go_wp2_with (at_builtin; refine wpList_append_lies _ rfl _ _ _ rfl (w.heap.size + 1) 3 i0 _ 1 8 Tryd.underlying39 hi hz0 hz1 hz2 rfl (by omega) u3 acc.length (acc.map (Value.int .i64)) rfl (ho.out.alloc _) ⟨wr.heap.size, 0, none⟩ 1 1 ([.int .i64 x.b]) rfl (rfl) (World.news_of_block (cs := #[.int .i64 x.b]) (t := 3) (fr := (0, 0)) (heap_alloc_new wr _)) (by simp [Value.oneCell']) (by omega) (by unfold maxLen; omega) (by omega) (by first | omega | (simp; omega)) (wr.heap.size + 1) (by first | rfl | simp) ?_; intro g1 cap1 w4 hown1 hgrow1 hat1 hlt1)
          have HT : Hid (w4.ownsRow (w.heap.size + 1) 3 1 (.slice (some ⟨g1, 0, none⟩) (LL s0 s1 s2 2).length cap1) (LL s0 s1 s2 2).length ((LL s0 s1 s2 2).map (Value.int .i64))) := Lib.hid (by
            rw [HACC.out, hs1.out, List.length_append, List.map_append]; exact hown1)
          have HE : Hid ((LL s0 s1 s2 2).length = acc.length + 1) := Lib.hid (by rw [HACC.out, hs1.out, List.length_append]; rfl)
          rw [HE.out] at HT
          have HB4 := Lib.hid ((((hbx.out.keep (below1 _ _)).grownK hgrow1 (by simp; omega) (fun j hj => by have := (ho.out.lt j hj).1; omega))))
          have hz4 : w.heap.size + 1 ≤ w4.heap.size := by have := hgrow1.size; (try simp only [World.size_alloc] at this); omega
          clear hown1 hgrow1 hat1
          go_wp2
          go_roundw
          case rel => exact ⟨2, by omega, by first | rfl | go_num, Lib.hid (by rw [HE.out]; exact HT.out), hz4, HB4⟩
          case measure => simp [intOf]
        have f100 : ((t1 : Int) == 100) = false := by
          rw [beq_eq_false_iff_ne]; intro e; apply e100
          have := ht1.out
          exact UInt8.toNat_inj.1 (by rw [this]; simp; omega)
        have f68 : ((t1 : Int) == 68) = false := by
          rw [beq_eq_false_iff_ne]; intro e; apply e68
          have := ht1.out
          exact UInt8.toNat_inj.1 (by rw [this]; simp; omega)
        have hs1 : Hid (s1 = []) := Lib.hid (by rw [← hd1.out]; simp [dstOne, e100, e68])
        have HE : Hid (LL s0 s1 s2 2 = acc) := Lib.hid (by rw [HACC.out, hs1.out, List.append_nil])
        clear e100 e68
        go_wp2
        go_roundw
        case rel => exact ⟨2, by omega, by first | rfl | go_num, Lib.hid (by rw [HE.out]; exact ho.out), m2, hbx⟩
        case measure => simp [intOf]
      · have hix : ∀ W, (Instr.index 59 (.agg #[.int .i64 x.a, .int .i64 x.b, .int .i64 x.c]) (.int .i64 2)).run Tryd.prog W = .ok (.int .i64 x.c) W := fun _ => by kernel_rfl
        have c0 : (0 : Int) < (s.size : Int) := by omega
        have c1 : (1 : Int) < (s.size : Int) := by omega
        have c2 : (2 : Int) < (s.size : Int) := by omega
        have HACC : Hid (LL s0 s1 s2 3 = acc ++ s2) := Lib.hid (by rw [← hacc.out]; simp [LL])
        by_cases e100 : q2 = 100
        · obtain rfl : t2 = 100 := by rw [← ht2.out, e100]; rfl
          have hs2 : Hid (s2 = [x.c]) := Lib.hid (by rw [← hd2.out, e100]; simp [dstOne])
          clear e100
          go_wp2_with (at_builtin; refine wpList_append_lies _ rfl _ _ _ rfl (w.heap.size + 1) 3 i0 _ 1 8 Tryd.underlying39 hi hz0 hz1 hz2 rfl (by omega) u3 acc.length (acc.map (Value.int .i64)) rfl (ho.out.alloc _) ⟨wr.heap.size, 0, none⟩ 1 1 ([.int .i64 x.c]) rfl (rfl) (World.news_of_block (cs := #[.int .i64 x.c]) (t := 3) (fr := (0, 0)) (heap_alloc_new wr _)) (by simp [Value.oneCell']) (by omega) (by unfold maxLen; omega) (by omega) (by first | omega | (simp; omega)) (wr.heap.size + 1) (by first | rfl | simp) ?_; intro g1 cap1 w4 hown1 hgrow1 hat1 hlt1)
          have HT : Hid (w4.ownsRow (w.heap.size + 1) 3 1 (.slice (some ⟨g1, 0, none⟩) (LL s0 s1 s2 3).length cap1) (LL s0 s1 s2 3).length ((LL s0 s1 s2 3).map (Value.int .i64))) := Lib.hid (by
            rw [HACC.out, hs2.out, List.length_append, List.map_append]; exact hown1)
          have HE : Hid ((LL s0 s1 s2 3).length = acc.length + 1) := Lib.hid (by rw [HACC.out, hs2.out, List.length_append]; rfl)
          rw [HE.out] at HT
          have HB4 := Lib.hid ((((hbx.out.keep (below1 _ _)).grownK hgrow1 (by simp; omega) (fun j hj => by have := (ho.out.lt j hj).1; omega))))
          have hz4 : w.heap.size + 1 ≤ w4.heap.size := by have := hgrow1.size; (try simp only [World.size_alloc] at this); omega
          clear hown1 hgrow1 hat1
          go_wp2
          go_roundw
          case rel => exact ⟨3, by omega, by first | rfl | go_num, Lib.hid (by rw [HE.out]; exact HT.out), hz4, HB4⟩
          case measure => simp [intOf]
        by_cases e68 : q2 = 68
        · obtain rfl : t2 = 68 := by rw [← ht2.out, e68]; rfl
          have hs2 : Hid (s2 = [x.c]) := Lib.hid (by rw [← hd2.out, e68]; simp [dstOne])
          clear e68
          go_wp2_with (at_builtin; refine wpList_append_lies _ rfl _ _ _ rfl (w.heap.size + 1) 3 i0 _ 1 8 Tryd.underlying39 hi hz0 hz1 hz2 rfl (by omega) u3 acc.length (acc.map (Value.int .i64)) rfl (ho.out.alloc _) ⟨wr.heap.size, 0, none⟩ 1 1 ([.int .i64 x.c]) rfl (rfl) (World.news_of_block (cs := #[.int .i64 x.c]) (t := 3) (fr := (0, 0)) (heap_alloc_new wr _)) (by simp [Value.oneCell']) (by omega) (by unfold maxLen; omega) (by omega) (by first | omega | (simp; omega)) (wr.heap.size + 1) (by first | rfl | simp) ?_; intro g1 cap1 w4 hown1 hgrow1 hat1 hlt1)
          have HT : Hid (w4.ownsRow (w.heap.size + 1) 3 1 (.slice (some ⟨g1, 0, none⟩) (LL s0 s1 s2 3).length cap1) (LL s0 s1 s2 3).length ((LL s0 s1 s2 3).map (Value.int .i64))) := Lib.hid (by
            rw [HACC.out, hs2.out, List.length_append, List.map_append]; exact hown1)
          have HE : Hid ((LL s0 s1 s2 3).length = acc.length + 1) := Lib.hid (by rw [HACC.out, hs2.out, List.length_append]; rfl)
          rw [HE.out] at HT
          have HB4 := Lib.hid ((((hbx.out.keep (below1 _ _)).grownK hgrow1 (by simp; omega) (fun j hj => by have := (ho.out.lt j hj).1; omega))))
          have hz4 : w.heap.size + 1 ≤ w4.heap.size := by have := hgrow1.size; (try simp only [World.size_alloc] at this); omega
          clear hown1 hgrow1 hat1
          go_wp2
          go_roundw
          case rel => exact ⟨3, by omega, by first | rfl | go_num, Lib.hid (by rw [HE.out]; exact HT.out), hz4, HB4⟩
          case measure => simp [intOf]
        have f100 : ((t2 : Int) == 100) = false := by
          rw [beq_eq_false_iff_ne]; intro e; apply e100
          have := ht2.out
          exact UInt8.toNat_inj.1 (by rw [this]; simp; omega)
        have f68 : ((t2 : Int) == 68) = false := by
          rw [beq_eq_false_iff_ne]; intro e; apply e68
          have := ht2.out
          exact UInt8.toNat_inj.1 (by rw [this]; simp; omega)
        have hs2 : Hid (s2 = []) := Lib.hid (by rw [← hd2.out]; simp [dstOne, e100, e68])
        have HE : Hid (LL s0 s1 s2 3 = acc) := Lib.hid (by rw [HACC.out, hs2.out, List.append_nil])
        clear e100 e68
        go_wp2
        go_roundw
        case rel => exact ⟨3, by omega, by first | rfl | go_num, Lib.hid (by rw [HE.out]; exact ho.out), m2, hbx⟩
        case measure => simp [intOf]
    · obtain rfl : k = 3 := by omega
      go_wp2
      go_ret
      refine ⟨_, rfl, ?_, hbx.out.bel⟩
      have : acc = s0 ++ s1 ++ s2 := by rw [← hacc.out]; simp [LL]
      rw [← this]
      exact own_weak ho.out (by omega)
end Go.Proofs.YtekfhgldebhigaaDoor
