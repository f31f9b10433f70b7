/-
  The walks of the program's hasOperands, hasKinds; boxes that stand.
-/
import Derived.Test.YtekfhgldebhigaaDoorCE
set_option linter.all false
namespace Go.Proofs.YtekfhgldebhigaaDoor
open Go.RowKit C
/-- The box of a program stands. -/
def B1 (p : Pg) (A B D : Option Addr) (ca cb cd : Nat) (w w' : World) : Prop := w'.cell? ⟨w.heap.size, 0, none⟩ = some (.slice A p.funcs.length ca) ∧ w'.cell? ⟨w.heap.size, 1, none⟩ = some (.slice B p.globals.length cb) ∧ w'.cell? ⟨w.heap.size, 2, none⟩ = some (.slice D p.layouts.length cd) ∧ w'.cell? ⟨w.heap.size, 3, none⟩ = some (.int .i64 p.main) ∧ Below w.heap.size w w'
/-- The boxes of a program and of a function stand. -/
def B2 (p : Pg) (A B D : Option Addr) (ca cb cd : Nat) (f : Fc) (Af : Option Addr) (caf : Nat) (w w' : World) : Prop := w'.cell? ⟨w.heap.size, 0, none⟩ = some (.slice A p.funcs.length ca) ∧ w'.cell? ⟨w.heap.size, 1, none⟩ = some (.slice B p.globals.length cb) ∧ w'.cell? ⟨w.heap.size, 2, none⟩ = some (.slice D p.layouts.length cd) ∧ w'.cell? ⟨w.heap.size, 3, none⟩ = some (.int .i64 p.main) ∧ w'.cell? ⟨w.heap.size + 1, 0, none⟩ = some (.string f.name) ∧ w'.cell? ⟨w.heap.size + 1, 1, none⟩ = some (.int .i64 f.params) ∧ w'.cell? ⟨w.heap.size + 1, 2, none⟩ = some (.int .i64 f.regs) ∧ w'.cell? ⟨w.heap.size + 1, 3, none⟩ = some (.slice Af f.code.length caf) ∧ Below w.heap.size w w'
theorem B1.keep {p : Pg} {A B D : Option Addr} {ca cb cd : Nat} {w V w' : World} (h : B1 p A B D ca cb cd w V) (hb : Below V.heap.size V w') : B1 p A B D ca cb cd w w' := by
  obtain ⟨y0, y1, y2, y3, b⟩ := h
  exact ⟨cell_bel y0 hb, cell_bel y1 hb, cell_bel y2 hb, cell_bel y3 hb, b.trans (hb.mono b.size)⟩
theorem B1.drew {p : Pg} {A B D : Option Addr} {ca cb cd : Nat} {w V : World} (h : B1 p A B D ca cb cd w V) : B1 p A B D ca cb cd w V.drew := by
  obtain ⟨y0, y1, y2, y3, b⟩ := h
  exact ⟨y0, y1, y2, y3, Below.drew b⟩
theorem B1.bel {p : Pg} {A B D : Option Addr} {ca cb cd : Nat} {w V : World} (h : B1 p A B D ca cb cd w V) : Below w.heap.size w V := by
  obtain ⟨y0, y1, y2, y3, b⟩ := h
  exact b
theorem B2.keep {p : Pg} {A B D : Option Addr} {ca cb cd : Nat} {f : Fc} {Af : Option Addr} {caf : Nat} {w V w' : World} (h : B2 p A B D ca cb cd f Af caf w V) (hb : Below V.heap.size V w') : B2 p A B D ca cb cd f Af caf w w' := by
  obtain ⟨y0, y1, y2, y3, y4, y5, y6, y7, b⟩ := h
  exact ⟨cell_bel y0 hb, cell_bel y1 hb, cell_bel y2 hb, cell_bel y3 hb, cell_bel y4 hb, cell_bel y5 hb, cell_bel y6 hb, cell_bel y7 hb, b.trans (hb.mono b.size)⟩
theorem B2.drew {p : Pg} {A B D : Option Addr} {ca cb cd : Nat} {f : Fc} {Af : Option Addr} {caf : Nat} {w V : World} (h : B2 p A B D ca cb cd f Af caf w V) : B2 p A B D ca cb cd f Af caf w V.drew := by
  obtain ⟨y0, y1, y2, y3, y4, y5, y6, y7, b⟩ := h
  exact ⟨y0, y1, y2, y3, y4, y5, y6, y7, Below.drew b⟩
theorem B2.bel {p : Pg} {A B D : Option Addr} {ca cb cd : Nat} {f : Fc} {Af : Option Addr} {caf : Nat} {w V : World} (h : B2 p A B D ca cb cd f Af caf w V) : Below w.heap.size w V := by
  obtain ⟨y0, y1, y2, y3, y4, y5, y6, y7, b⟩ := h
  exact b
theorem B1.new (p : Pg) (A B D : Option Addr) (ca cb cd : Nat) (w : World) : B1 p A B D ca cb cd w (w.alloc (.cells #[.slice A p.funcs.length ca, .slice B p.globals.length cb, .slice D p.layouts.length cd, .int .i64 p.main] 26)) := by
  have h := heap_alloc_new w (.cells #[.slice A p.funcs.length ca, .slice B p.globals.length cb, .slice D p.layouts.length cd, .int .i64 p.main] 26)
  refine ⟨?_, ?_, ?_, ?_, below1 _ _⟩ <;> (rw [cell_of_row _ _ _ _ _ _ h]; rfl)
theorem B2.new (p : Pg) (A B D : Option Addr) (ca cb cd : Nat) (f : Fc) (Af : Option Addr) (caf : Nat) (w : World) : B2 p A B D ca cb cd f Af caf w ((w.alloc (.cells #[.slice A p.funcs.length ca, .slice B p.globals.length cb, .slice D p.layouts.length cd, .int .i64 p.main] 26)).alloc (.cells #[.string f.name, .int .i64 f.params, .int .i64 f.regs, .slice Af f.code.length caf] 37)) := by
  have h := (Below.heap_alloc (w.alloc (.cells #[.slice A p.funcs.length ca, .slice B p.globals.length cb, .slice D p.layouts.length cd, .int .i64 p.main] 26)) (.cells #[.string f.name, .int .i64 f.params, .int .i64 f.regs, .slice Af f.code.length caf] 37) w.heap.size (by simp)).trans (heap_alloc_new w (.cells #[.slice A p.funcs.length ca, .slice B p.globals.length cb, .slice D p.layouts.length cd, .int .i64 p.main] 26))
  have h2 := heap_alloc_new (w.alloc (.cells #[.slice A p.funcs.length ca, .slice B p.globals.length cb, .slice D p.layouts.length cd, .int .i64 p.main] 26)) (.cells #[.string f.name, .int .i64 f.params, .int .i64 f.regs, .slice Af f.code.length caf] 37)
  rw [World.size_alloc] at h2
  refine ⟨?_, ?_, ?_, ?_, ?_, ?_, ?_, ?_, below2 _ _ _⟩
  · rw [cell_of_row _ _ _ _ _ _ h]; rfl
  · rw [cell_of_row _ _ _ _ _ _ h]; rfl
  · rw [cell_of_row _ _ _ _ _ _ h]; rfl
  · rw [cell_of_row _ _ _ _ _ _ h]; rfl
  · rw [cell_of_row _ _ _ _ _ _ h2]; rfl
  · rw [cell_of_row _ _ _ _ _ _ h2]; rfl
  · rw [cell_of_row _ _ _ _ _ _ h2]; rfl
  · rw [cell_of_row _ _ _ _ _ _ h2]; rfl
theorem operands_take {p : Pg} {f : Fc} {k : Nat} (h : k < f.code.length) : ((f.code.take (k + 1)).all fun x => decide (0 ≤ x.at') && fitsP p f x) = (((f.code.take k).all fun x => decide (0 ≤ x.at') && fitsP p f x) && (decide (0 ≤ f.code[k].at') && fitsP p f f.code[k])) := by
  rw [List.take_succ_eq_append_getElem h, List.all_append]; simp
theorem operands_bad {p : Pg} {f : Fc} {k : Nat} (h : k < f.code.length) (hb : (decide (0 ≤ f.code[k].at') && fitsP p f f.code[k]) = false) : operandsP p f = false := by
  rw [← Bool.not_eq_true]; unfold operandsP; rw [List.all_eq_true]
  intro a; have := a f.code[k] (List.getElem_mem h); rw [hb] at this; cases this
set_option maxRecDepth 100000 in
set_option maxHeartbeats 8000000 in
theorem hasOperands_any (p : Pg) (A B D : Option Addr) (ca cb cd : Nat) (f : Fc) (Af : Option Addr) (caf : Nat) (w : World) (hp : PgAt w p A B D ca cb cd) (hf : FvOk w f Af caf) (hr : 0 ≤ f.regs ∧ f.regs ≤ 64) :
    Calls Tryd.prog 35 #[pv p A B D ca cb cd, fv f Af caf] w fun e w' => e = .returned (.bool (operandsP p f)) ∧ Below w.heap.size w w' := by
  have HN : Hid (B2 p A B D ca cb cd f Af caf w _) := Lib.hid (B2.new p A B D ca cb cd f Af caf w)
  have hm := hf.k.2
  have hcap := hf.k.1
  unfold maxLen at hm
  have HP := Lib.hid hp
  have HV := Lib.hid hf
  clear hp hf
  go_enter Tryd.func35, Tryd.ntmps35
  go_wp2
  go_loopw [10] (fun i wr => ∃ k : Nat, k ≤ f.code.length ∧ i = .int .i64 k ∧ Hid ((f.code.take k).all (fun x => decide (0 ≤ x.at') && fitsP p f x) = true) ∧ Hid (B2 p A B D ca cb cd f Af caf w wr)) (fun i _ => f.code.length - (intOf i).toNat)
  case atStart => exact ⟨0, Nat.zero_le _, rfl, Lib.hid rfl, HN⟩
  case round =>
    clear HN
    obtain ⟨k, hk, rfl, hok, hbx⟩ := hrel
    by_cases hlt : k < f.code.length
    · obtain ⟨g, o, rfl, hh⟩ := HV.out.row.at (by omega)
      obtain ⟨y00, y01, y02, y03, y10, y11, y12, y13, yb⟩ := hbx.out
      have hx := (hh k hlt).below yb
      obtain ⟨x, hxe⟩ : ∃ x, f.code[k] = x := ⟨_, rfl⟩
      rw [hxe] at hx
      have HX := Lib.hid hxe
      have q0 := hx.c0
      have q1 := hx.c1
      have q2 := hx.c2
      have q3 := hx.c3
      have q4 := hx.c4
      have HB := Lib.hid yb
      have n0 : w.heap.size ≠ wr.heap.size := by have := World.block_lt_of_cell? wr _ y00; intro e; simp only at this; omega
      have n1 : w.heap.size + 1 ≠ wr.heap.size := by have := World.block_lt_of_cell? wr _ y10; intro e; simp only at this; omega
      have m0 : w.heap.size < wr.heap.size := by have := World.block_lt_of_cell? wr _ y00; simpa using this
      have m1 : w.heap.size + 1 < wr.heap.size := by have := World.block_lt_of_cell? wr _ y10; simpa using this
      have HA := Lib.hid hx
      have HF : Hid (∀ V, Hid (Below wr.heap.size wr V) → Calls Tryd.prog 56 #[pv p A B D ca cb cd, fv f (some ⟨g, o, none⟩) caf, xv x] V fun e w' => e = .returned (.bool (fitsP p f x)) ∧ Below V.heap.size V w') := Lib.hid fun V hV =>
        fits_any p A B D ca cb cd f (some ⟨g, o, none⟩) caf x V ⟨HP.out.below (HB.out.trans (hV.out.mono HB.out.size)), HV.out.below (HB.out.trans (hV.out.mono HB.out.size)), hr, HA.out.b0, HA.out.b1, HA.out.b2, HA.out.b3, HA.out.b4⟩
      clear yb hx hxe hh
      by_cases hat : x.at' < 0
      · have e1 : decide (x.at' < 0) = true := by simp; omega
        have HE : Hid (operandsP p f = false) := Lib.hid (operands_bad hlt (by rw [HX.out]; simp; intro h; omega))
        clear hat
        go_wp2
        all_goals
          go_ret
          exact ⟨retb HE.out.symm, HB.out.trans ((below1 _ _).mono HB.out.size)⟩
      · have e1 : decide (x.at' < 0) = false := by simp; omega
        by_cases hfit : fitsP p f x = true
        · simp only [hfit] at HF
          have HT : Hid ((f.code.take (k + 1)).all (fun x => decide (0 ≤ x.at') && fitsP p f x) = true) := Lib.hid (by rw [operands_take hlt, hok.out, HX.out, hfit]; simp; omega)
          clear hat hfit
          go_wp2_with (go_at_call 56; (with_reducible refine (HF.out _ (Lib.hid ?_)).mono ?_); (exact below1 _ _); rintro e w3 ⟨rfl, hw3⟩)
          go_roundw
          case rel => exact ⟨k + 1, by omega, by go_num, HT, Lib.hid ((hbx.out.keep (below1 _ _)).keep hw3)⟩
          case measure => simp [intOf]; omega
        · have hfit2 : fitsP p f x = false := by simpa using hfit
          simp only [hfit2] at HF
          have HE : Hid (operandsP p f = false) := Lib.hid (operands_bad hlt (by rw [HX.out, hfit2]; simp))
          clear hat hfit hfit2
          go_wp2_with (go_at_call 56; (with_reducible refine (HF.out _ (Lib.hid ?_)).mono ?_); (exact below1 _ _); rintro e w3 ⟨rfl, hw3⟩)
          go_ret
          exact ⟨retb HE.out.symm, ((hbx.out.keep (below1 _ _)).keep hw3).bel⟩
    · obtain rfl : k = f.code.length := by omega
      have HE : Hid (operandsP p f = true) := Lib.hid (by unfold operandsP; rw [← hok.out, List.take_length])
      go_wp2
      go_ret
      exact ⟨retb HE.out.symm, hbx.out.bel⟩
end Go.Proofs.YtekfhgldebhigaaDoor
