/-
  The law CodeRegs.
-/
import Derived.Test.YtcjkhbggongcjaaLC
import Derived.Test.YtcjkhbggongcjaaRP
import Derived.Test.YtcjkhbggongcjaaRN
set_option linter.all false
namespace Go.Proofs.Ytcjkhbggongcjaa
open Go.RowKit C
theorem usesF_reg {p : Pg} (hv : validB p = true) (fn pc : Int) : C.below (usesF p fn pc) 64 := by
  unfold usesF
  cases hb : (insF p fn pc).2 with
  | false => exact ⟨List.Pairwise.nil, fun x hx => by cases hx⟩
  | true =>
    obtain ⟨k1, k2, _, _, _, hx⟩ := insF_true hb
    have e : p.funcs.getD fn.toNat default = p.funcs[fn.toNat] := getDF k1
    have h := uses_below hv (List.getElem_mem k1) k2
    have hp := (valid_fn hv (List.getElem_mem k1)).par
    rw [if_pos rfl, hx, e]
    exact ⟨h.1, fun x hx => by have := h.2 x hx; omega⟩
theorem defsF_reg {p : Pg} (hv : validB p = true) (fn pc : Int) : C.below (defsF p fn pc) 64 := by
  unfold defsF
  cases hb : (insF p fn pc).2 with
  | false => exact ⟨List.Pairwise.nil, fun x hx => by cases hx⟩
  | true =>
    obtain ⟨k1, k2, _, _, _, hx⟩ := insF_true hb
    have h := defs_below hv (List.getElem_mem k1) k2
    have hp := (valid_fn hv (List.getElem_mem k1)).par
    rw [if_pos rfl, hx]
    exact ⟨h.1, fun x hx => by have := h.2 x hx; omega⟩
theorem ints_two {w : World} {v1 v2 : Value} {l : List Int} (h1 : ∃ b, w.ownsRow b 3 1 v1 l.length (l.map (Value.int .i64))) (h2 : ∃ b, w.ownsRow b 3 1 v2 l.length (l.map (Value.int .i64))) (hi : ∀ x ∈ l, i64 x) (hl : l.length ≤ 1000) :
    Calls Try.prog 20 #[v1, v2] w fun e w' => e = .returned (.bool true) ∧ Below w.heap.size w w' := by
  obtain ⟨b1, h1⟩ := h1
  obtain ⟨b2, h2⟩ := h2
  obtain ⟨A, c, rfl, hc, hr, _⟩ := own_ints h1 hi
  obtain ⟨A', c', rfl, hc', hr', _⟩ := own_ints h2 hi
  have := ints_any A A' c c' l l w (by unfold maxLen; omega) (by unfold maxLen; omega) hr hr'
  rwa [decide_eq_true rfl] at this
/-- The box of a program stands, and a function's cells. -/
def BS (p : Pg) (A B D : Option Addr) (ca cb cd : Nat) (r : Addr) (f : Fc) (Af : Option Addr) (caf : Nat) (w w' : World) : Prop := w'.cell? ⟨w.heap.size, 0, none⟩ = some (.slice A p.funcs.length ca) ∧ w'.cell? ⟨w.heap.size, 1, none⟩ = some (.slice B p.globals.length cb) ∧ w'.cell? ⟨w.heap.size, 2, none⟩ = some (.slice D p.layouts.length cd) ∧ w'.cell? ⟨w.heap.size, 3, none⟩ = some (.int .i64 p.main) ∧ w'.cell? r = some (.string f.name) ∧ w'.cell? (⟨r.block, r.off + 1, none⟩) = some (.int .i64 f.params) ∧ w'.cell? (⟨r.block, r.off + 2, none⟩) = some (.int .i64 f.regs) ∧ w'.cell? (⟨r.block, r.off + 3, none⟩) = some (.slice Af f.code.length caf) ∧ Below w.heap.size w w'
theorem BS.keep {p : Pg} {A B D : Option Addr} {ca cb cd : Nat} {r : Addr} {f : Fc} {Af : Option Addr} {caf : Nat} {w V w' : World} (h : BS p A B D ca cb cd r f Af caf w V) (hb : Below V.heap.size V w') : BS p A B D ca cb cd r f Af caf w w' := by
  obtain ⟨y0, y1, y2, y3, y4, y5, y6, y7, b⟩ := h
  have k : ∀ {a : Addr} {u : Value}, V.cell? a = some u → w'.cell? a = some u := fun {a u} h => by rw [hb.cell (p := a) (World.block_lt_of_cell? V _ h)]; exact h
  exact ⟨k y0, k y1, k y2, k y3, k y4, k y5, k y6, k y7, b.trans (hb.mono b.size)⟩
theorem BS.drew {p : Pg} {A B D : Option Addr} {ca cb cd : Nat} {r : Addr} {f : Fc} {Af : Option Addr} {caf : Nat} {w V : World} (h : BS p A B D ca cb cd r f Af caf w V) : BS p A B D ca cb cd r f Af caf w V.drew := by
  obtain ⟨y0, y1, y2, y3, y4, y5, y6, y7, b⟩ := h
  exact ⟨y0, y1, y2, y3, y4, y5, y6, y7, Below.drew b⟩
theorem BS.bel {p : Pg} {A B D : Option Addr} {ca cb cd : Nat} {r : Addr} {f : Fc} {Af : Option Addr} {caf : Nat} {w V : World} (h : BS p A B D ca cb cd r f Af caf w V) : Below w.heap.size w V := by
  obtain ⟨y0, y1, y2, y3, y4, y5, y6, y7, b⟩ := h
  exact b
set_option maxRecDepth 100000 in
set_option maxHeartbeats 16000000 in
theorem law_CodeRegs (p : Pg) (A B D : Option Addr) (ca cb cd : Nat) (fn pc : Int) (w : World) (hp : PgAt w p A B D ca cb cd) (bf : i64 fn) (bp : i64 pc) : Calls Try.prog 6 #[pv p A B D ca cb cd, .int .i64 fn, .int .i64 pc] w fun e w' => e = .returned (.bool true) ∧ Below w.heap.size w w' := by
  have HN := Lib.hid (B1.new p A B D ca cb cd w)
  have HR : Hid (∀ V, Below w.heap.size w V → Calls Try.prog 12 #[pv p A B D ca cb cd] V fun e w' => e = .returned (.bool (validB p)) ∧ Below V.heap.size V w') := Lib.hid fun V hV => rvalid_any p A B D ca cb cd V (hp.below hV)
  have HW : Hid (∀ V, Calls Try.prog 10 #[] V fun e w' => e = .returned (.bool true) ∧ Below V.heap.size V w') := Lib.hid awake_any
  have hml := hp.ka.2
  unfold maxLen at hml
  cases hb : validB p with
  | false =>
    simp only [hb] at HR
    clear hb hp
    go_enter Try.func6, Try.ntmps6
    go_wp2_with fail
    refine (HR.out _ (below1 _ _)).mono ?_
    rintro e w2 ⟨rfl, hw2⟩
    have hb2 := Lib.hid (HN.out.keep hw2)
    obtain ⟨y00, y01, y02, y03, yb⟩ := hb2.out
    have HB2 := Lib.hid yb
    clear yb hw2
    clear y00 y01 y02 y03
    go_wp2_with fail
    refine (HW.out _).mono ?_
    rintro e w3 ⟨rfl, hw3⟩
    go_wp2
    go_ret
    exact ⟨rfl, HB2.out.trans (hw3.mono HB2.out.size)⟩
  | true =>
    simp only [hb] at HR
    have HV := Lib.hid hb
    have HP := Lib.hid hp
    have hul := usesF_reg hb fn pc
    have hdl := defsF_reg hb fn pc
    have l1 := inc_len hul (by omega)
    have l2 := inc_len hdl (by omega)
    have HU1 : Hid (∀ V, Below w.heap.size w V → Calls Try.prog 21 #[pv p A B D ca cb cd, .int .i64 fn, .int .i64 pc] V (RetOwn (usesF p fn pc) V)) := Lib.hid fun V hV => cuses_any p A B D ca cb cd fn pc V (hp.below hV) hb bf bp
    have HU2 : Hid (∀ V, Below w.heap.size w V → Calls Try.prog 22 #[pv p A B D ca cb cd, .int .i64 fn, .int .i64 pc] V (RetOwn (usesF p fn pc) V)) := Lib.hid fun V hV => ruses_any p A B D ca cb cd fn pc V (hp.below hV) hb bf bp
    have HD1 : Hid (∀ V, Below w.heap.size w V → Calls Try.prog 23 #[pv p A B D ca cb cd, .int .i64 fn, .int .i64 pc] V (RetOwn (defsF p fn pc) V)) := Lib.hid fun V hV => cdefs_any p A B D ca cb cd fn pc V (hp.below hV) hb bf bp
    have HD2 : Hid (∀ V, Below w.heap.size w V → Calls Try.prog 24 #[pv p A B D ca cb cd, .int .i64 fn, .int .i64 pc] V (RetOwn (defsF p fn pc) V)) := Lib.hid fun V hV => rdefs_any p A B D ca cb cd fn pc V (hp.below hV) hb bf bp
    obtain ⟨lu, hlu⟩ : ∃ lu, usesF p fn pc = lu := ⟨_, rfl⟩
    obtain ⟨ld, hld⟩ : ∃ ld, defsF p fn pc = ld := ⟨_, rfl⟩
    rw [hlu] at HU1 HU2 hul l1
    rw [hld] at HD1 HD2 hdl l2
    have HI1 : Hid (∀ (V : World) (v1 v2 : Value), (∃ b, V.ownsRow b 3 1 v1 lu.length (lu.map (Value.int .i64))) → (∃ b, V.ownsRow b 3 1 v2 lu.length (lu.map (Value.int .i64))) → Calls Try.prog 20 #[v1, v2] V fun e w' => e = .returned (.bool true) ∧ Below V.heap.size V w') := Lib.hid fun V v1 v2 h1 h2 => ints_two h1 h2 (fun x hx => i64s2 (by have := hul.2 x hx; omega)) (by omega)
    have HI2 : Hid (∀ (V : World) (v1 v2 : Value), (∃ b, V.ownsRow b 3 1 v1 ld.length (ld.map (Value.int .i64))) → (∃ b, V.ownsRow b 3 1 v2 ld.length (ld.map (Value.int .i64))) → Calls Try.prog 20 #[v1, v2] V fun e w' => e = .returned (.bool true) ∧ Below V.heap.size V w') := Lib.hid fun V v1 v2 h1 h2 => ints_two h1 h2 (fun x hx => i64s2 (by have := hdl.2 x hx; omega)) (by omega)
    clear hb hp hlu hld hul hdl l1 l2
    go_enter Try.func6, Try.ntmps6
    go_wp2_with fail
    refine (HR.out _ (below1 _ _)).mono ?_
    rintro e w2 ⟨rfl, hw2⟩
    have hb2 := Lib.hid (HN.out.keep hw2)
    obtain ⟨y00, y01, y02, y03, yb⟩ := hb2.out
    have HB2 := Lib.hid yb
    clear yb hw2
    go_wp2_with fail
    go_region_held3 (fun w' => w'.cell? ⟨w.heap.size, 0, none⟩ = some (.slice A p.funcs.length ca) ∧ w'.cell? ⟨w.heap.size, 1, none⟩ = some (.slice B p.globals.length cb) ∧ w'.cell? ⟨w.heap.size, 2, none⟩ = some (.slice D p.layouts.length cd) ∧ w'.cell? ⟨w.heap.size, 3, none⟩ = some (.int .i64 p.main) ∧ Below w.heap.size w w')
      (first
        | exact B1.drew hb2.out
        | assumption
        | (refine B1.keep (p := p) (A := A) (B := B) (D := D) (ca := ca) (cb := cb) (cd := cd) (w := w) ?_ hbb; assumption))
      (first
        | (go_at_call 10; (with_reducible refine (HW.out _).mono ?_); rintro e w' ⟨rfl, hbb⟩)
        | (go_at_call 21; (with_reducible refine (HU1.out _ ?_).mono ?_); (go_split_ands; assumption); rintro e w' ⟨vu, rfl, hou, hbb⟩)
        | (go_at_call 22; (with_reducible refine (HU2.out _ ?_).mono ?_); (go_split_ands; assumption); rintro e w' ⟨vr, rfl, hor, hbb⟩; have hou2 := own_keep hou hbb)
        | (go_at_call 20; (with_reducible refine (HI1.out _ _ _ ?_ ?_).mono ?_); (exact ⟨_, hou2⟩); (exact ⟨_, hor⟩); rintro e w' ⟨rfl, hbb⟩)
        | (go_at_call 23; (with_reducible refine (HD1.out _ ?_).mono ?_); (go_split_ands; assumption); rintro e w' ⟨vd, rfl, hod, hbb⟩)
        | (go_at_call 24; (with_reducible refine (HD2.out _ ?_).mono ?_); (go_split_ands; assumption); rintro e w' ⟨vs, rfl, hos, hbb⟩; have hod2 := own_keep hod hbb)
        | (go_at_call 20; (with_reducible refine (HI2.out _ _ _ ?_ ?_).mono ?_); (exact ⟨_, hod2⟩); (exact ⟨_, hos⟩); rintro e w' ⟨rfl, hbb⟩))
    have HZ : Hid (B1 p A B D ca cb cd w w') := Lib.hid (by assumption)
    clear y00 y01 y02 y03 hou hor hou2 hod hos hod2
    obtain ⟨y00, y01, y02, y03, yb⟩ := HZ.out
    have HB3 := Lib.hid yb
    clear yb hbb
    by_cases c1 : fn < 0
    · have d1 : decide (fn < 0) = true := by simpa using c1
      go_wp2
      go_ret
      exact ⟨rfl, HB3.out⟩
    · have d1 : decide (fn < 0) = false := by simpa using c1
      by_cases c2 : fn < (p.funcs.length : Int)
      · have d2 : decide ((p.funcs.length : Int) ≤ fn) = false := by simp; omega
        have h1 : fn.toNat < p.funcs.length := by omega
        obtain ⟨gA, oA, rfl, hA⟩ := HP.out.fs.at (by omega)
        have hfx := hA fn.toNat h1
        obtain ⟨f, hfe⟩ : ∃ f, p.funcs[fn.toNat] = f := ⟨_, rfl⟩
        rw [hfe] at hfx
        have hm : f ∈ p.funcs := hfe ▸ List.getElem_mem h1
        have hfn := valid_fn HV.out hm
        have hlen0 := hfn.len.1
        have h1000 := hfn.len.2
        obtain ⟨Af, caf, q3', hvv⟩ := hfx.ok
        obtain ⟨gC, oC, rfl, hC⟩ := hvv.row.at hlen0
        have h50 : ∀ x ∈ f.code, x.op = 50 → 0 ≤ x.b ∧ x.b ≤ 8 := by
          intro x hx e
          obtain ⟨j, hj, rfl⟩ := List.mem_iff_getElem.1 hx
          have hi := (seq_at p _ _ 0 hfn.seq j hj).1
          obtain ⟨r0, r1, r2, er, _, _, hbb, _⟩ := instr_parts hi
          rw [e, show roles 50 = [100, 115, 98] by decide] at er
          simp only [List.cons.injEq] at er; obtain ⟨rfl, rfl, rfl, _⟩ := er
          simpa [operandB] using hbb
        have HN1 : Hid (∀ V, Below w.heap.size w V → Calls Try.prog 25 #[fv f (some ⟨gC, oC, none⟩) caf, .int .i64 pc] V (RetOwn (nextF f pc) V)) := Lib.hid fun V hV => cnext_any f (some ⟨gC, oC, none⟩) caf pc V (hvv.below hV) h1000 h50 bp
        have HN2 : Hid (∀ V, Below w.heap.size w V → Calls Try.prog 26 #[fv f (some ⟨gC, oC, none⟩) caf, .int .i64 pc] V (RetOwn (nextF f pc) V)) := Lib.hid fun V hV => rnext_any f (some ⟨gC, oC, none⟩) caf pc V (hvv.below hV) h1000 h50 bp
        have hne : (nextF f pc).length ≤ 2 ∧ ∀ x ∈ nextF f pc, i64 x := by
          by_cases hr : 0 ≤ pc ∧ pc < (f.code.length : Int)
          · obtain ⟨j, rfl⟩ := Int.eq_ofNat_of_zero_le hr.1
            have hj : j < f.code.length := by omega
            have e : nextF f (Int.ofNat j) = nextI j f.code[j] := nextF_at hj
            rw [show ((j : Nat) : Int) = Int.ofNat j from rfl, e]
            refine ⟨nextI_len _ _, fun x hx => ?_⟩
            obtain ⟨n0, hh, _⟩ := (next_ok HV.out hm hj).2 x hx
            exact i64s3 (by omega)
          · have e : nextF f pc = [] := by unfold nextF; rw [if_neg (by simpa [C.len] using hr)]
            rw [e]; exact ⟨by simp, fun x hx => by cases hx⟩
        obtain ⟨ln, hln⟩ : ∃ ln, nextF f pc = ln := ⟨_, rfl⟩
        rw [hln] at HN1 HN2 hne
        have HI3 : Hid (∀ (V : World) (v1 v2 : Value), (∃ b, V.ownsRow b 3 1 v1 ln.length (ln.map (Value.int .i64))) → (∃ b, V.ownsRow b 3 1 v2 ln.length (ln.map (Value.int .i64))) → Calls Try.prog 20 #[v1, v2] V fun e w' => e = .returned (.bool true) ∧ Below V.heap.size V w') := Lib.hid fun V v1 v2 h1 h2 => ints_two h1 h2 hne.2 (by omega)
        have hfx1 := hfx.below HB3.out
        have q0 := hfx1.c0
        have q1 := hfx1.c1
        have q2 := hfx1.c2
        have q3 := (bl_cell HB3.out hfx.lt).trans q3'
        have k0 : 0 ≤ fn := by omega
        have hbs := Lib.hid (⟨y00, y01, y02, y03, q0, q1, q2, q3, HB3.out⟩ : BS p (some ⟨gA, oA, none⟩) B D ca cb cd ⟨gA, oA + fn.toNat * 4, none⟩ f (some ⟨gC, oC, none⟩) caf w w')
        clear hA hfx hfe hm hfn q3' hvv h50 hln hne hC hfx1 HI1 HI2 HU1 HU2 HD1 HD2
        rename World => w9
        go_wp2_with fail
        go_region_held3 (fun w' => w'.cell? ⟨w.heap.size, 0, none⟩ = some (.slice (some ⟨gA, oA, none⟩) p.funcs.length ca) ∧ w'.cell? ⟨w.heap.size, 1, none⟩ = some (.slice B p.globals.length cb) ∧ w'.cell? ⟨w.heap.size, 2, none⟩ = some (.slice D p.layouts.length cd) ∧ w'.cell? ⟨w.heap.size, 3, none⟩ = some (.int .i64 p.main) ∧ w'.cell? ⟨gA, oA + fn.toNat * 4, none⟩ = some (.string f.name) ∧ w'.cell? ⟨gA, oA + fn.toNat * 4 + 1, none⟩ = some (.int .i64 f.params) ∧ w'.cell? ⟨gA, oA + fn.toNat * 4 + 2, none⟩ = some (.int .i64 f.regs) ∧ w'.cell? ⟨gA, oA + fn.toNat * 4 + 3, none⟩ = some (.slice (some ⟨gC, oC, none⟩) f.code.length caf) ∧ Below w.heap.size w w')
          (first
            | exact BS.drew hbs.out
            | assumption
            | (refine BS.keep (p := p) (A := (some ⟨gA, oA, none⟩)) (B := B) (D := D) (ca := ca) (cb := cb) (cd := cd) (w := w) (r := ⟨gA, oA + fn.toNat * 4, none⟩) (f := f) (Af := (some ⟨gC, oC, none⟩)) (caf := caf) ?_ hbb; assumption))
          (first
            | (go_at_call 25; (with_reducible refine (HN1.out _ ?_).mono ?_); (go_split_ands; assumption); rintro e w' ⟨vu, rfl, hou, hbb⟩)
            | (go_at_call 26; (with_reducible refine (HN2.out _ ?_).mono ?_); (go_split_ands; assumption); rintro e w' ⟨vr, rfl, hor, hbb⟩; have hou2 := own_keep hou hbb)
            | (go_at_call 20; (with_reducible refine (HI3.out _ _ _ ?_ ?_).mono ?_); (exact ⟨_, hou2⟩); (exact ⟨_, hor⟩); rintro e w' ⟨rfl, hbb⟩))
        all_goals
          have HZ2 : Hid (BS p (some ⟨gA, oA, none⟩) B D ca cb cd ⟨gA, oA + fn.toNat * 4, none⟩ f (some ⟨gC, oC, none⟩) caf w w') := Lib.hid (by assumption)
          go_wp2
          go_ret
          exact ⟨rfl, HZ2.out.bel⟩
      · have d2 : decide ((p.funcs.length : Int) ≤ fn) = true := by simp; omega
        go_wp2
        go_ret
        exact ⟨rfl, HB3.out⟩
end Go.Proofs.Ytcjkhbggongcjaa
