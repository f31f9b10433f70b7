/-
  The walk of the program's fits.
-/
import Derived.Test.YtekfhgldebhigaaDoorCD
import Derived.Test.YtekfhgldebhigaaDoorRE
set_option linter.all false
namespace Go.Proofs.YtekfhgldebhigaaDoor
open Go.RowKit C
def okQs (l : Bs) : Bool := (l == []) || (l.length == 3 && l.all okQ)
theorem table_ok : ∀ i : Fin 53, okQs (table.getD i.val []) = true := by decide
theorem rolesP_ok (x : In) : rolesP x = [] ∨ ∃ q0 q1 q2, rolesP x = [q0, q1, q2] ∧ okQ q0 = true ∧ okQ q1 = true ∧ okQ q2 = true := by
  have H : okQs (rolesP x) = true := by
    unfold rolesP
    split
    · rfl
    · split
      · decide
      · exact table_ok ⟨x.op.toNat, by omega⟩
  unfold okQs at H
  rcases h : rolesP x with _ | ⟨q0, _ | ⟨q1, _ | ⟨q2, _ | ⟨q3, r⟩⟩⟩⟩
  · exact .inl rfl
  · rw [h] at H; simp at H
  · rw [h] at H; simp at H
  · rw [h] at H
    simp at H
    exact .inr ⟨q0, q1, q2, rfl, H.1, H.2.1, H.2.2⟩
  · rw [h] at H; simp at H
theorem BX.cells {p : Pg} {A B D : Option Addr} {ca cb cd : Nat} {f : Fc} {Af : Option Addr} {caf : Nat} {x : In} {w w' : World} (h : BX p A B D ca cb cd f Af caf x w w') : w'.cell? ⟨w.heap.size, 0, none⟩ = some (.slice A p.funcs.length ca) ∧ w'.cell? ⟨w.heap.size, 1, none⟩ = some (.slice B p.globals.length cb) ∧ w'.cell? ⟨w.heap.size, 2, none⟩ = some (.slice D p.layouts.length cd) ∧ w'.cell? ⟨w.heap.size, 3, none⟩ = some (.int .i64 p.main) ∧ w'.cell? ⟨w.heap.size + 1, 0, none⟩ = some (.string f.name) ∧ w'.cell? ⟨w.heap.size + 1, 1, none⟩ = some (.int .i64 f.params) ∧ w'.cell? ⟨w.heap.size + 1, 2, none⟩ = some (.int .i64 f.regs) ∧ w'.cell? ⟨w.heap.size + 1, 3, none⟩ = some (.slice Af f.code.length caf) ∧ w'.cell? ⟨w.heap.size + 2, 0, none⟩ = some (.int .i64 x.op) ∧ w'.cell? ⟨w.heap.size + 2, 1, none⟩ = some (.int .i64 x.a) ∧ w'.cell? ⟨w.heap.size + 2, 2, none⟩ = some (.int .i64 x.b) ∧ w'.cell? ⟨w.heap.size + 2, 3, none⟩ = some (.int .i64 x.c) ∧ w'.cell? ⟨w.heap.size + 2, 4, none⟩ = some (.int .i64 x.at') ∧ Below w.heap.size w w' := h
def optAt (x : In) (k : Nat) : Int := if k = 0 then x.a else if k = 1 then x.b else x.c
/-- What is asked ahead of fits. -/
structure FitAsk (w : World) (p : Pg) (A B D : Option Addr) (ca cb cd : Nat) (f : Fc) (Af : Option Addr) (caf : Nat) (x : In) : Prop where
  hp : PgAt w p A B D ca cb cd
  hf : FvOk w f Af caf
  reg : 0 ≤ f.regs ∧ f.regs ≤ 64
  b0 : i64 x.op
  b1 : i64 x.a
  b2 : i64 x.b
  b3 : i64 x.c
  b4 : i64 x.at'
set_option maxHeartbeats 2000000 in
theorem fits_nil (p : Pg) (A B D : Option Addr) (ca cb cd : Nat) (f : Fc) (Af : Option Addr) (caf : Nat) (x : In) (w : World) (H : FitAsk w p A B D ca cb cd f Af caf x) (hq : rolesP x = []) :
    Calls Tryd.prog 56 #[pv p A B D ca cb cd, fv f Af caf, xv x] w fun e w' => e = .returned (.bool (fitsP p f x)) ∧ Below w.heap.size w w' := by
  have HR : Hid (∀ V, Calls Tryd.prog 57 #[xv x] V fun e w' => e = .returned (.string ⟨#[]⟩) ∧ Below V.heap.size V w') := Lib.hid fun V => by have := rolesOf_any x V; rw [hq] at this; exact this
  have hfin : fitsP p f x = false := by unfold fitsP; rw [hq]
  rw [hfin]
  have HB := Lib.hid (belowA w (.cells #[.slice A p.funcs.length ca, .slice B p.globals.length cb, .slice D p.layouts.length cd, .int .i64 p.main] 26) (.cells #[.string f.name, .int .i64 f.params, .int .i64 f.regs, .slice Af f.code.length caf] 37) (.cells #[.int .i64 x.op, .int .i64 x.a, .int .i64 x.b, .int .i64 x.c, .int .i64 x.at'] 34))
  clear H hq hfin
  go_enter Tryd.func56, Tryd.ntmps56
  go_wp2_with (go_at_call 57; (with_reducible refine (HR.out _).mono ?_); rintro e w1 ⟨rfl, hw1⟩)
  go_ret
  exact ⟨rfl, HB.out.trans (hw1.mono (by simp; omega))⟩

set_option maxRecDepth 100000 in
set_option maxHeartbeats 8000000 in
theorem fits_some (p : Pg) (A B D : Option Addr) (ca cb cd : Nat) (f : Fc) (Af : Option Addr) (caf : Nat) (x : In) (w : World) (H : FitAsk w p A B D ca cb cd f Af caf x) (q0 q1 q2 : UInt8) (hq : rolesP x = [q0, q1, q2]) (ok0 : okQ q0 = true) (ok1 : okQ q1 = true) (ok2 : okQ q2 = true) :
    Calls Tryd.prog 56 #[pv p A B D ca cb cd, fv f Af caf, xv x] w fun e w' => e = .returned (.bool (fitsP p f x)) ∧ Below w.heap.size w w' := by
  have HN0 : Hid (BX p A B D ca cb cd f Af caf x w _) := Lib.hid (BX.new p A B D ca cb cd f Af caf x w)
  have HP := Lib.hid H.hp
  have HV := Lib.hid H.hf
  have hreg := H.reg
  have HQ := Lib.hid hq
  obtain ⟨s, hs⟩ : ∃ s, txt [q0, q1, q2] = s := ⟨_, rfl⟩
  have HR : Hid (∀ V, Calls Tryd.prog 57 #[xv x] V fun e w' => e = .returned (.string s) ∧ Below V.heap.size V w') := Lib.hid fun V => by have := rolesOf_any x V; rw [hq, hs] at this; exact this
  have HO : Hid (∀ V, Calls Tryd.prog 58 #[xv x] V fun e w' => e = .returned (ov x) ∧ Below V.heap.size V w') := Lib.hid fun V => operands_any x V
  have s3 : s.size = 3 := by rw [← hs]; rfl
  have i0 : s[0].toNat = q0.toNat := by subst hs; rfl
  have i1 : s[1].toNat = q1.toNat := by subst hs; rfl
  have i2 : s[2].toNat = q2.toNat := by subst hs; rfl
  have n1 : ¬ s.toList = [] := by rw [ByteArray.toList_eq, ← hs]; simp [txt]
  have n2 : s.toList.isEmpty = false := by simp [n1]
  obtain ⟨t0, ht0⟩ : ∃ t, q0.toNat = t := ⟨_, rfl⟩
  obtain ⟨t1, ht1⟩ : ∃ t, q1.toNat = t := ⟨_, rfl⟩
  obtain ⟨t2, ht2⟩ : ∃ t, q2.toNat = t := ⟨_, rfl⟩
  rw [ht0] at i0
  rw [ht1] at i1
  rw [ht2] at i2
  have ht0 := Lib.hid ht0
  have ht1 := Lib.hid ht1
  have ht2 := Lib.hid ht2
  clear hs hq H
  have HBN : Hid (∀ w1 w2, Below ((((w.alloc (.cells #[.slice A p.funcs.length ca, .slice B p.globals.length cb, .slice D p.layouts.length cd, .int .i64 p.main] 26)).alloc (.cells #[.string f.name, .int .i64 f.params, .int .i64 f.regs, .slice Af f.code.length caf] 37)).alloc (.cells #[.int .i64 x.op, .int .i64 x.a, .int .i64 x.b, .int .i64 x.c, .int .i64 x.at'] 34)).heap.size) (((w.alloc (.cells #[.slice A p.funcs.length ca, .slice B p.globals.length cb, .slice D p.layouts.length cd, .int .i64 p.main] 26)).alloc (.cells #[.string f.name, .int .i64 f.params, .int .i64 f.regs, .slice Af f.code.length caf] 37)).alloc (.cells #[.int .i64 x.op, .int .i64 x.a, .int .i64 x.b, .int .i64 x.c, .int .i64 x.at'] 34)) w1 → Below w1.heap.size w1 w2 → BX p A B D ca cb cd f Af caf x w w2) := Lib.hid fun w1 w2 a b => BX.keep (BX.keep HN0.out a) b
  have HBM : Hid (∀ w1, Below ((((w.alloc (.cells #[.slice A p.funcs.length ca, .slice B p.globals.length cb, .slice D p.layouts.length cd, .int .i64 p.main] 26)).alloc (.cells #[.string f.name, .int .i64 f.params, .int .i64 f.regs, .slice Af f.code.length caf] 37)).alloc (.cells #[.int .i64 x.op, .int .i64 x.a, .int .i64 x.b, .int .i64 x.c, .int .i64 x.at'] 34)).heap.size) (((w.alloc (.cells #[.slice A p.funcs.length ca, .slice B p.globals.length cb, .slice D p.layouts.length cd, .int .i64 p.main] 26)).alloc (.cells #[.string f.name, .int .i64 f.params, .int .i64 f.regs, .slice Af f.code.length caf] 37)).alloc (.cells #[.int .i64 x.op, .int .i64 x.a, .int .i64 x.b, .int .i64 x.c, .int .i64 x.at'] 34)) w1 → BX p A B D ca cb cd f Af caf x w w1) := Lib.hid fun w1 a => BX.keep HN0.out a
  go_enter Tryd.func56, Tryd.ntmps56
  go_wp2_with fail
  refine (HR.out _).mono ?_
  rintro e w1 ⟨rfl, hw1⟩
  obtain ⟨z00, z01, z02, z03, z10, z11, z12, z13, z20, z21, z22, z23, z24, zb⟩ := HBM.out w1 hw1
  clear zb
  have HW1 := Lib.hid hw1
  clear hw1
  go_wp2_with fail
  refine (HO.out _).mono ?_
  rintro e w2 ⟨rfl, hw2⟩
  have HBX2 := Lib.hid (HBN.out w1 w2 HW1.out hw2)
  clear hw2 HW1 HBN HBM HN0 HR HO z00 z01 z02 z03 z10 z11 z12 z13 z20 z21 z22 z23 z24
  go_wp2
  go_loopw [18] (fun i wr => ∃ k : Nat, k ≤ 3 ∧ i = .int .i64 k ∧ Hid (∀ j, j < k → inP p f ([q0, q1, q2].getD j 0) (optAt x j) = true) ∧ Hid (BX p A B D ca cb cd f Af caf x w wr)) (fun i _ => 3 - (intOf i).toNat)
  case atStart => exact ⟨0, by omega, rfl, Lib.hid (fun j h => absurd h (Nat.not_lt_zero _)), HBX2⟩
  case round =>
    clear HBX2
    obtain ⟨k, hk, rfl, hin, hbx⟩ := hrel
    by_cases hlt : k < 3
    · obtain rfl | rfl | rfl : k = 0 ∨ k = 1 ∨ k = 2 := by omega
      · obtain ⟨z, hz⟩ : ∃ z, limP p f q0 = z := ⟨_, rfl⟩
        obtain ⟨lo, hi⟩ := z
        have HLV : Hid (∀ V, Below w.heap.size w V → Calls Tryd.prog 69 #[pv p A B D ca cb cd, fv f Af caf, .int .u8 (t0 : Int)] V fun e w' => e = .returned (.tuple #[.int .i64 lo, .int .i64 hi]) ∧ Below V.heap.size V w') := Lib.hid fun V hV => by
          have := limits_any p A B D ca cb cd f Af caf V q0 ok0 (HP.out.below hV) (HV.out.below hV) hreg
          unfold limV at this
          rw [hz, ht0.out] at this
          exact this
        have HIN : Hid (inP p f q0 x.a = decide (lo ≤ x.a ∧ x.a ≤ hi)) := Lib.hid (by unfold inP; rw [hz])
        have HN := hbx
        obtain ⟨y00, y01, y02, y03, y10, y11, y12, y13, y20, y21, y22, y23, y24, yb⟩ := hbx.out
        have HYB := Lib.hid yb
        clear yb hz
        have c0 : (0 : Int) < (s.size : Int) := by omega
        have c1 : (1 : Int) < (s.size : Int) := by omega
        have c2 : (2 : Int) < (s.size : Int) := by omega
        have hix : ∀ W, (Instr.index 59 (.agg #[.int .i64 x.a, .int .i64 x.b, .int .i64 x.c]) (.int .i64 0)).run Tryd.prog W = .ok (.int .i64 x.a) W := fun _ => by kernel_rfl
        go_wp2_with fail
        go_region_held3 (fun w' => w'.cell? ⟨w.heap.size, 0, none⟩ = some (.slice A p.funcs.length ca) ∧ w'.cell? ⟨w.heap.size, 1, none⟩ = some (.slice B p.globals.length cb) ∧ w'.cell? ⟨w.heap.size, 2, none⟩ = some (.slice D p.layouts.length cd) ∧ w'.cell? ⟨w.heap.size, 3, none⟩ = some (.int .i64 p.main) ∧ w'.cell? ⟨w.heap.size + 1, 0, none⟩ = some (.string f.name) ∧ w'.cell? ⟨w.heap.size + 1, 1, none⟩ = some (.int .i64 f.params) ∧ w'.cell? ⟨w.heap.size + 1, 2, none⟩ = some (.int .i64 f.regs) ∧ w'.cell? ⟨w.heap.size + 1, 3, none⟩ = some (.slice Af f.code.length caf) ∧ w'.cell? ⟨w.heap.size + 2, 0, none⟩ = some (.int .i64 x.op) ∧ w'.cell? ⟨w.heap.size + 2, 1, none⟩ = some (.int .i64 x.a) ∧ w'.cell? ⟨w.heap.size + 2, 2, none⟩ = some (.int .i64 x.b) ∧ w'.cell? ⟨w.heap.size + 2, 3, none⟩ = some (.int .i64 x.c) ∧ w'.cell? ⟨w.heap.size + 2, 4, none⟩ = some (.int .i64 x.at') ∧ Below w.heap.size w w')
            (first
              | exact HN.out.start
              | assumption
              | (refine BX.keep (p := p) (A := A) (B := B) (D := D) (ca := ca) (cb := cb) (cd := cd) (f := f) (Af := Af) (caf := caf) (x := x) ?_ hbb; assumption))
            (first | (go_at_call 69; (with_reducible refine (HLV.out _ ?_).mono ?_); (go_split_ands; assumption); rintro e w' ⟨rfl, hbb⟩))
        all_goals
          have HBX : Hid (BX p A B D ca cb cd f Af caf x w w') := Lib.hid (by assumption)
          by_cases hlo : x.a < lo
          · have HF : Hid (fitsP p f x = false) := Lib.hid (by unfold fitsP; rw [HQ.out]; simp only; rw [show inP p f q0 x.a = false by rw [HIN.out, decide_eq_false_iff_not]; omega]; simp)
            have d1 : decide (x.a < lo) = true := by simp; omega
            clear hlo
            go_wp2
            all_goals
              go_ret
              exact ⟨retb HF.out.symm, HBX.out.2.2.2.2.2.2.2.2.2.2.2.2.2⟩
          · have d1 : decide (x.a < lo) = false := by simp; omega
            by_cases hhi : hi < x.a
            · have HF : Hid (fitsP p f x = false) := Lib.hid (by unfold fitsP; rw [HQ.out]; simp only; rw [show inP p f q0 x.a = false by rw [HIN.out, decide_eq_false_iff_not]; omega]; simp)
              have d2 : decide (hi < x.a) = true := by simp; omega
              clear hlo hhi
              go_wp2
              all_goals
                go_ret
                exact ⟨retb HF.out.symm, HBX.out.2.2.2.2.2.2.2.2.2.2.2.2.2⟩
            · have d2 : decide (hi < x.a) = false := by simp; omega
              have HI : Hid (inP p f q0 x.a = true) := Lib.hid (by rw [HIN.out, decide_eq_true_eq]; omega)
              clear hlo hhi
              go_wp2
              all_goals
                go_roundw
                case rel => exact ⟨1, by omega, by first | rfl | go_num, Lib.hid (fun j hj => by
                  by_cases e : j = 0
                  · subst e; exact HI.out
                  · exact hin.out j (by omega)), HBX⟩
                case measure => simp [intOf]

      · obtain ⟨z, hz⟩ : ∃ z, limP p f q1 = z := ⟨_, rfl⟩
        obtain ⟨lo, hi⟩ := z
        have HLV : Hid (∀ V, Below w.heap.size w V → Calls Tryd.prog 69 #[pv p A B D ca cb cd, fv f Af caf, .int .u8 (t1 : Int)] V fun e w' => e = .returned (.tuple #[.int .i64 lo, .int .i64 hi]) ∧ Below V.heap.size V w') := Lib.hid fun V hV => by
          have := limits_any p A B D ca cb cd f Af caf V q1 ok1 (HP.out.below hV) (HV.out.below hV) hreg
          unfold limV at this
          rw [hz, ht1.out] at this
          exact this
        have HIN : Hid (inP p f q1 x.b = decide (lo ≤ x.b ∧ x.b ≤ hi)) := Lib.hid (by unfold inP; rw [hz])
        have HN := hbx
        obtain ⟨y00, y01, y02, y03, y10, y11, y12, y13, y20, y21, y22, y23, y24, yb⟩ := hbx.out
        have HYB := Lib.hid yb
        clear yb hz
        have c0 : (0 : Int) < (s.size : Int) := by omega
        have c1 : (1 : Int) < (s.size : Int) := by omega
        have c2 : (2 : Int) < (s.size : Int) := by omega
        have hix : ∀ W, (Instr.index 59 (.agg #[.int .i64 x.a, .int .i64 x.b, .int .i64 x.c]) (.int .i64 1)).run Tryd.prog W = .ok (.int .i64 x.b) W := fun _ => by kernel_rfl
        go_wp2_with fail
        go_region_held3 (fun w' => w'.cell? ⟨w.heap.size, 0, none⟩ = some (.slice A p.funcs.length ca) ∧ w'.cell? ⟨w.heap.size, 1, none⟩ = some (.slice B p.globals.length cb) ∧ w'.cell? ⟨w.heap.size, 2, none⟩ = some (.slice D p.layouts.length cd) ∧ w'.cell? ⟨w.heap.size, 3, none⟩ = some (.int .i64 p.main) ∧ w'.cell? ⟨w.heap.size + 1, 0, none⟩ = some (.string f.name) ∧ w'.cell? ⟨w.heap.size + 1, 1, none⟩ = some (.int .i64 f.params) ∧ w'.cell? ⟨w.heap.size + 1, 2, none⟩ = some (.int .i64 f.regs) ∧ w'.cell? ⟨w.heap.size + 1, 3, none⟩ = some (.slice Af f.code.length caf) ∧ w'.cell? ⟨w.heap.size + 2, 0, none⟩ = some (.int .i64 x.op) ∧ w'.cell? ⟨w.heap.size + 2, 1, none⟩ = some (.int .i64 x.a) ∧ w'.cell? ⟨w.heap.size + 2, 2, none⟩ = some (.int .i64 x.b) ∧ w'.cell? ⟨w.heap.size + 2, 3, none⟩ = some (.int .i64 x.c) ∧ w'.cell? ⟨w.heap.size + 2, 4, none⟩ = some (.int .i64 x.at') ∧ Below w.heap.size w w')
            (first
              | exact HN.out.start
              | assumption
              | (refine BX.keep (p := p) (A := A) (B := B) (D := D) (ca := ca) (cb := cb) (cd := cd) (f := f) (Af := Af) (caf := caf) (x := x) ?_ hbb; assumption))
            (first | (go_at_call 69; (with_reducible refine (HLV.out _ ?_).mono ?_); (go_split_ands; assumption); rintro e w' ⟨rfl, hbb⟩))
        all_goals
          have HBX : Hid (BX p A B D ca cb cd f Af caf x w w') := Lib.hid (by assumption)
          by_cases hlo : x.b < lo
          · have HF : Hid (fitsP p f x = false) := Lib.hid (by unfold fitsP; rw [HQ.out]; simp only; rw [show inP p f q1 x.b = false by rw [HIN.out, decide_eq_false_iff_not]; omega]; simp)
            have d1 : decide (x.b < lo) = true := by simp; omega
            clear hlo
            go_wp2
            all_goals
              go_ret
              exact ⟨retb HF.out.symm, HBX.out.2.2.2.2.2.2.2.2.2.2.2.2.2⟩
          · have d1 : decide (x.b < lo) = false := by simp; omega
            by_cases hhi : hi < x.b
            · have HF : Hid (fitsP p f x = false) := Lib.hid (by unfold fitsP; rw [HQ.out]; simp only; rw [show inP p f q1 x.b = false by rw [HIN.out, decide_eq_false_iff_not]; omega]; simp)
              have d2 : decide (hi < x.b) = true := by simp; omega
              clear hlo hhi
              go_wp2
              all_goals
                go_ret
                exact ⟨retb HF.out.symm, HBX.out.2.2.2.2.2.2.2.2.2.2.2.2.2⟩
            · have d2 : decide (hi < x.b) = false := by simp; omega
              have HI : Hid (inP p f q1 x.b = true) := Lib.hid (by rw [HIN.out, decide_eq_true_eq]; omega)
              clear hlo hhi
              go_wp2
              all_goals
                go_roundw
                case rel => exact ⟨2, by omega, by first | rfl | go_num, Lib.hid (fun j hj => by
                  by_cases e : j = 1
                  · subst e; exact HI.out
                  · exact hin.out j (by omega)), HBX⟩
                case measure => simp [intOf]

      · obtain ⟨z, hz⟩ : ∃ z, limP p f q2 = z := ⟨_, rfl⟩
        obtain ⟨lo, hi⟩ := z
        have HLV : Hid (∀ V, Below w.heap.size w V → Calls Tryd.prog 69 #[pv p A B D ca cb cd, fv f Af caf, .int .u8 (t2 : Int)] V fun e w' => e = .returned (.tuple #[.int .i64 lo, .int .i64 hi]) ∧ Below V.heap.size V w') := Lib.hid fun V hV => by
          have := limits_any p A B D ca cb cd f Af caf V q2 ok2 (HP.out.below hV) (HV.out.below hV) hreg
          unfold limV at this
          rw [hz, ht2.out] at this
          exact this
        have HIN : Hid (inP p f q2 x.c = decide (lo ≤ x.c ∧ x.c ≤ hi)) := Lib.hid (by unfold inP; rw [hz])
        have HN := hbx
        obtain ⟨y00, y01, y02, y03, y10, y11, y12, y13, y20, y21, y22, y23, y24, yb⟩ := hbx.out
        have HYB := Lib.hid yb
        clear yb hz
        have c0 : (0 : Int) < (s.size : Int) := by omega
        have c1 : (1 : Int) < (s.size : Int) := by omega
        have c2 : (2 : Int) < (s.size : Int) := by omega
        have hix : ∀ W, (Instr.index 59 (.agg #[.int .i64 x.a, .int .i64 x.b, .int .i64 x.c]) (.int .i64 2)).run Tryd.prog W = .ok (.int .i64 x.c) W := fun _ => by kernel_rfl
        go_wp2_with fail
        go_region_held3 (fun w' => w'.cell? ⟨w.heap.size, 0, none⟩ = some (.slice A p.funcs.length ca) ∧ w'.cell? ⟨w.heap.size, 1, none⟩ = some (.slice B p.globals.length cb) ∧ w'.cell? ⟨w.heap.size, 2, none⟩ = some (.slice D p.layouts.length cd) ∧ w'.cell? ⟨w.heap.size, 3, none⟩ = some (.int .i64 p.main) ∧ w'.cell? ⟨w.heap.size + 1, 0, none⟩ = some (.string f.name) ∧ w'.cell? ⟨w.heap.size + 1, 1, none⟩ = some (.int .i64 f.params) ∧ w'.cell? ⟨w.heap.size + 1, 2, none⟩ = some (.int .i64 f.regs) ∧ w'.cell? ⟨w.heap.size + 1, 3, none⟩ = some (.slice Af f.code.length caf) ∧ w'.cell? ⟨w.heap.size + 2, 0, none⟩ = some (.int .i64 x.op) ∧ w'.cell? ⟨w.heap.size + 2, 1, none⟩ = some (.int .i64 x.a) ∧ w'.cell? ⟨w.heap.size + 2, 2, none⟩ = some (.int .i64 x.b) ∧ w'.cell? ⟨w.heap.size + 2, 3, none⟩ = some (.int .i64 x.c) ∧ w'.cell? ⟨w.heap.size + 2, 4, none⟩ = some (.int .i64 x.at') ∧ Below w.heap.size w w')
            (first
              | exact HN.out.start
              | assumption
              | (refine BX.keep (p := p) (A := A) (B := B) (D := D) (ca := ca) (cb := cb) (cd := cd) (f := f) (Af := Af) (caf := caf) (x := x) ?_ hbb; assumption))
            (first | (go_at_call 69; (with_reducible refine (HLV.out _ ?_).mono ?_); (go_split_ands; assumption); rintro e w' ⟨rfl, hbb⟩))
        all_goals
          have HBX : Hid (BX p A B D ca cb cd f Af caf x w w') := Lib.hid (by assumption)
          by_cases hlo : x.c < lo
          · have HF : Hid (fitsP p f x = false) := Lib.hid (by unfold fitsP; rw [HQ.out]; simp only; rw [show inP p f q2 x.c = false by rw [HIN.out, decide_eq_false_iff_not]; omega]; simp)
            have d1 : decide (x.c < lo) = true := by simp; omega
            clear hlo
            go_wp2
            all_goals
              go_ret
              exact ⟨retb HF.out.symm, HBX.out.2.2.2.2.2.2.2.2.2.2.2.2.2⟩
          · have d1 : decide (x.c < lo) = false := by simp; omega
            by_cases hhi : hi < x.c
            · have HF : Hid (fitsP p f x = false) := Lib.hid (by unfold fitsP; rw [HQ.out]; simp only; rw [show inP p f q2 x.c = false by rw [HIN.out, decide_eq_false_iff_not]; omega]; simp)
              have d2 : decide (hi < x.c) = true := by simp; omega
              clear hlo hhi
              go_wp2
              all_goals
                go_ret
                exact ⟨retb HF.out.symm, HBX.out.2.2.2.2.2.2.2.2.2.2.2.2.2⟩
            · have d2 : decide (hi < x.c) = false := by simp; omega
              have HI : Hid (inP p f q2 x.c = true) := Lib.hid (by rw [HIN.out, decide_eq_true_eq]; omega)
              clear hlo hhi
              go_wp2
              all_goals
                go_roundw
                case rel => exact ⟨3, by omega, by first | rfl | go_num, Lib.hid (fun j hj => by
                  by_cases e : j = 2
                  · subst e; exact HI.out
                  · exact hin.out j (by omega)), HBX⟩
                case measure => simp [intOf]

    · obtain rfl : k = 3 := by omega
      have I0 := hin.out 0 (by omega)
      have I1 := hin.out 1 (by omega)
      have I2 := hin.out 2 (by omega)
      simp only [List.getD_cons_zero, List.getD_cons_succ] at I0 I1 I2
      have J0 : inP p f q0 x.a = true := I0
      have J1 : inP p f q1 x.b = true := I1
      have J2 : inP p f q2 x.c = true := I2
      have HE : Hid (fitsP p f x = extraP p f x) := Lib.hid (by unfold fitsP; rw [HQ.out]; simp only; rw [J0, J1, J2]; rfl)
      obtain ⟨y00, y01, y02, y03, y10, y11, y12, y13, y20, y21, y22, y23, y24, yb⟩ := hbx.out
      have HYB := Lib.hid yb
      clear yb I0 I1 I2 hin hbx
      by_cases h : x.op = 16
      · have hT : [q0, q1, q2] = [45, 45, 116] := by rw [← HQ.out, rolesP_in (by omega) (by omega), h]; rfl
        simp only [List.cons.injEq, and_true] at hT
        obtain ⟨rfl, rfl, rfl⟩ := hT
        have hc : 0 ≤ x.c ∧ x.c < (f.code.length : Int) := by
          simp [inP, limP, C.len] at J2; omega
        clear J0 J1 J2
        obtain ⟨g, o, rfl, hr⟩ := HV.out.row.at (by omega)
        have hh := (hr x.c.toNat (by omega)).below HYB.out
        have hget := getD_at hc.1 hc.2
        obtain ⟨y, hy⟩ : ∃ y, f.code[x.c.toNat]'(by omega) = y := ⟨_, rfl⟩
        rw [hy] at hh hget
        have z0 := hh.c0
        have HF : Hid (fitsP p f x = (y.op != 51)) := Lib.hid (by rw [HE.out]; unfold extraP; rw [if_pos (by omega), hget, Bool.eq_iff_iff]; simp)
        have k0 := hc.1
        have k1 := hc.2
        have e16 : ((x.op : Int) == 16) = true := by simp [h]
        have e17 : ((x.op : Int) == 17) = false := by simp [h]
        have e45 : ((x.op : Int) == 45) = false := by simp [h]
        have e26 : ((x.op : Int) == 26) = false := by simp [h]
        have e28 : ((x.op : Int) == 28) = false := by simp [h]
        have e31 : ((x.op : Int) == 31) = false := by simp [h]
        have e24 : ((x.op : Int) == 24) = false := by simp [h]
        clear hh hy hget hr hc h HE
        go_wp2
        all_goals
          go_ret
          exact ⟨retb HF.out.symm, HYB.out⟩
      by_cases h : x.op = 17
      · have hT : [q0, q1, q2] = [115, 45, 116] := by rw [← HQ.out, rolesP_in (by omega) (by omega), h]; rfl
        simp only [List.cons.injEq, and_true] at hT
        obtain ⟨rfl, rfl, rfl⟩ := hT
        have hc : 0 ≤ x.c ∧ x.c < (f.code.length : Int) := by
          simp [inP, limP, C.len] at J2; omega
        clear J0 J1 J2
        obtain ⟨g, o, rfl, hr⟩ := HV.out.row.at (by omega)
        have hh := (hr x.c.toNat (by omega)).below HYB.out
        have hget := getD_at hc.1 hc.2
        obtain ⟨y, hy⟩ : ∃ y, f.code[x.c.toNat]'(by omega) = y := ⟨_, rfl⟩
        rw [hy] at hh hget
        have z0 := hh.c0
        have HF : Hid (fitsP p f x = (y.op != 51)) := Lib.hid (by rw [HE.out]; unfold extraP; rw [if_pos (by omega), hget, Bool.eq_iff_iff]; simp)
        have k0 := hc.1
        have k1 := hc.2
        have e16 : ((x.op : Int) == 16) = false := by simp [h]
        have e17 : ((x.op : Int) == 17) = true := by simp [h]
        have e45 : ((x.op : Int) == 45) = false := by simp [h]
        have e26 : ((x.op : Int) == 26) = false := by simp [h]
        have e28 : ((x.op : Int) == 28) = false := by simp [h]
        have e31 : ((x.op : Int) == 31) = false := by simp [h]
        have e24 : ((x.op : Int) == 24) = false := by simp [h]
        clear hh hy hget hr hc h HE
        go_wp2
        all_goals
          go_ret
          exact ⟨retb HF.out.symm, HYB.out⟩
      by_cases h : x.op = 45
      · have hT : [q0, q1, q2] = [115, 45, 116] := by rw [← HQ.out, rolesP_in (by omega) (by omega), h]; rfl
        simp only [List.cons.injEq, and_true] at hT
        obtain ⟨rfl, rfl, rfl⟩ := hT
        have hc : 0 ≤ x.c ∧ x.c < (f.code.length : Int) := by
          simp [inP, limP, C.len] at J2; omega
        clear J0 J1 J2
        obtain ⟨g, o, rfl, hr⟩ := HV.out.row.at (by omega)
        have hh := (hr x.c.toNat (by omega)).below HYB.out
        have hget := getD_at hc.1 hc.2
        obtain ⟨y, hy⟩ : ∃ y, f.code[x.c.toNat]'(by omega) = y := ⟨_, rfl⟩
        rw [hy] at hh hget
        have z0 := hh.c0
        have HF : Hid (fitsP p f x = (y.op != 51)) := Lib.hid (by rw [HE.out]; unfold extraP; rw [if_pos (by omega), hget, Bool.eq_iff_iff]; simp)
        have k0 := hc.1
        have k1 := hc.2
        have e16 : ((x.op : Int) == 16) = false := by simp [h]
        have e17 : ((x.op : Int) == 17) = false := by simp [h]
        have e45 : ((x.op : Int) == 45) = true := by simp [h]
        have e26 : ((x.op : Int) == 26) = false := by simp [h]
        have e28 : ((x.op : Int) == 28) = false := by simp [h]
        have e31 : ((x.op : Int) == 31) = false := by simp [h]
        have e24 : ((x.op : Int) == 24) = false := by simp [h]
        clear hh hy hget hr hc h HE
        go_wp2
        all_goals
          go_ret
          exact ⟨retb HF.out.symm, HYB.out⟩
      by_cases h : x.op = 26
      · have hT : [q0, q1, q2] = [68, 102, 97] := by rw [← HQ.out, rolesP_in (by omega) (by omega), h]; rfl
        simp only [List.cons.injEq, and_true] at hT
        obtain ⟨rfl, rfl, rfl⟩ := hT
        have hc : 0 ≤ x.c ∧ x.c ≤ f.regs := by
          simp [inP, limP, C.len] at J2; omega
        have hb0 : 0 ≤ x.b ∧ x.b < (p.funcs.length : Int) := by
          simp [inP, limP, C.len] at J1; omega
        clear J0 J1 J2
        obtain ⟨g, o, rfl, hr⟩ := HP.out.fs.at (by omega)
        have hh := (hr x.b.toNat (by omega)).below HYB.out
        have hget := getD_at hb0.1 hb0.2
        obtain ⟨y, hy⟩ : ∃ y, p.funcs[x.b.toNat]'(by omega) = y := ⟨_, rfl⟩
        rw [hy] at hh hget
        have z1 := hh.c1
        have HF : Hid (fitsP p f x = decide (y.params ≤ f.regs - x.c)) := Lib.hid (by rw [HE.out]; unfold extraP; rw [if_neg (by omega), if_pos (by omega), hget])
        have k0 := hb0.1
        have k1 := hb0.2
        have k2 := hc.1
        have k3 := hc.2
        have k4 := hreg.1
        have k5 := hreg.2
        have e16 : ((x.op : Int) == 16) = false := by simp [h]
        have e17 : ((x.op : Int) == 17) = false := by simp [h]
        have e45 : ((x.op : Int) == 45) = false := by simp [h]
        have e26 : ((x.op : Int) == 26) = true := by simp [h]
        have e28 : ((x.op : Int) == 28) = false := by simp [h]
        have e31 : ((x.op : Int) == 31) = false := by simp [h]
        have e24 : ((x.op : Int) == 24) = false := by simp [h]
        have hw : IntKind.i64.wrap (f.regs - x.c) = f.regs - x.c := IntWalk.i64_in _ (by omega)
        clear hh hy hget hr hc hb0 h HE hreg
        go_wp2_with fail
        go_quiet (fail)
        all_goals go_wp2
        all_goals
          go_ret
          exact ⟨retb HF.out.symm, bel_drewN HYB.out _⟩
      by_cases h : x.op = 28
      · have hT : [q0, q1, q2] = [45, 102, 97] := by rw [← HQ.out, rolesP_in (by omega) (by omega), h]; rfl
        simp only [List.cons.injEq, and_true] at hT
        obtain ⟨rfl, rfl, rfl⟩ := hT
        have hc : 0 ≤ x.c ∧ x.c ≤ f.regs := by
          simp [inP, limP, C.len] at J2; omega
        have hb0 : 0 ≤ x.b ∧ x.b < (p.funcs.length : Int) := by
          simp [inP, limP, C.len] at J1; omega
        clear J0 J1 J2
        obtain ⟨g, o, rfl, hr⟩ := HP.out.fs.at (by omega)
        have hh := (hr x.b.toNat (by omega)).below HYB.out
        have hget := getD_at hb0.1 hb0.2
        obtain ⟨y, hy⟩ : ∃ y, p.funcs[x.b.toNat]'(by omega) = y := ⟨_, rfl⟩
        rw [hy] at hh hget
        have z1 := hh.c1
        have HF : Hid (fitsP p f x = decide (y.params ≤ f.regs - x.c)) := Lib.hid (by rw [HE.out]; unfold extraP; rw [if_neg (by omega), if_pos (by omega), hget])
        have k0 := hb0.1
        have k1 := hb0.2
        have k2 := hc.1
        have k3 := hc.2
        have k4 := hreg.1
        have k5 := hreg.2
        have e16 : ((x.op : Int) == 16) = false := by simp [h]
        have e17 : ((x.op : Int) == 17) = false := by simp [h]
        have e45 : ((x.op : Int) == 45) = false := by simp [h]
        have e26 : ((x.op : Int) == 26) = false := by simp [h]
        have e28 : ((x.op : Int) == 28) = true := by simp [h]
        have e31 : ((x.op : Int) == 31) = false := by simp [h]
        have e24 : ((x.op : Int) == 24) = false := by simp [h]
        have hw : IntKind.i64.wrap (f.regs - x.c) = f.regs - x.c := IntWalk.i64_in _ (by omega)
        clear hh hy hget hr hc hb0 h HE hreg
        go_wp2_with fail
        go_quiet (fail)
        all_goals go_wp2
        all_goals
          go_ret
          exact ⟨retb HF.out.symm, bel_drewN HYB.out _⟩
      by_cases h : x.op = 31
      · have hT : [q0, q1, q2] = [45, 102, 97] := by rw [← HQ.out, rolesP_in (by omega) (by omega), h]; rfl
        simp only [List.cons.injEq, and_true] at hT
        obtain ⟨rfl, rfl, rfl⟩ := hT
        have hc : 0 ≤ x.c ∧ x.c ≤ f.regs := by
          simp [inP, limP, C.len] at J2; omega
        have hb0 : 0 ≤ x.b ∧ x.b < (p.funcs.length : Int) := by
          simp [inP, limP, C.len] at J1; omega
        clear J0 J1 J2
        obtain ⟨g, o, rfl, hr⟩ := HP.out.fs.at (by omega)
        have hh := (hr x.b.toNat (by omega)).below HYB.out
        have hget := getD_at hb0.1 hb0.2
        obtain ⟨y, hy⟩ : ∃ y, p.funcs[x.b.toNat]'(by omega) = y := ⟨_, rfl⟩
        rw [hy] at hh hget
        have z1 := hh.c1
        have HF : Hid (fitsP p f x = decide (y.params ≤ f.regs - x.c)) := Lib.hid (by rw [HE.out]; unfold extraP; rw [if_neg (by omega), if_pos (by omega), hget])
        have k0 := hb0.1
        have k1 := hb0.2
        have k2 := hc.1
        have k3 := hc.2
        have k4 := hreg.1
        have k5 := hreg.2
        have e16 : ((x.op : Int) == 16) = false := by simp [h]
        have e17 : ((x.op : Int) == 17) = false := by simp [h]
        have e45 : ((x.op : Int) == 45) = false := by simp [h]
        have e26 : ((x.op : Int) == 26) = false := by simp [h]
        have e28 : ((x.op : Int) == 28) = false := by simp [h]
        have e31 : ((x.op : Int) == 31) = true := by simp [h]
        have e24 : ((x.op : Int) == 24) = false := by simp [h]
        have hw : IntKind.i64.wrap (f.regs - x.c) = f.regs - x.c := IntWalk.i64_in _ (by omega)
        clear hh hy hget hr hc hb0 h HE hreg
        go_wp2_with fail
        go_quiet (fail)
        all_goals go_wp2
        all_goals
          go_ret
          exact ⟨retb HF.out.symm, bel_drewN HYB.out _⟩
      by_cases h : x.op = 24
      · have hT : [q0, q1, q2] = [100, 102, 110] := by rw [← HQ.out, rolesP_in (by omega) (by omega), h]; rfl
        simp only [List.cons.injEq, and_true] at hT
        obtain ⟨rfl, rfl, rfl⟩ := hT
        have hc : 0 ≤ x.c ∧ x.c ≤ 63 := by
          simp [inP, limP, C.len] at J2; omega
        have ha : 0 ≤ x.a ∧ x.a < f.regs := by
          simp [inP, limP, C.len] at J0; omega
        have hb0 : 0 ≤ x.b ∧ x.b < (p.funcs.length : Int) := by
          simp [inP, limP, C.len] at J1; omega
        clear J0 J1 J2
        obtain ⟨g, o, rfl, hr⟩ := HP.out.fs.at (by omega)
        have hh := (hr x.b.toNat (by omega)).below HYB.out
        have hget := getD_at hb0.1 hb0.2
        obtain ⟨y, hy⟩ : ∃ y, p.funcs[x.b.toNat]'(by omega) = y := ⟨_, rfl⟩
        rw [hy] at hh hget
        have z1 := hh.c1
        have HF : Hid (fitsP p f x = decide (y.params = 1 ∧ x.a + x.c < f.regs)) := Lib.hid (by rw [HE.out]; unfold extraP; rw [if_neg (by omega), if_neg (by omega), if_pos h, hget])
        have k0 := hb0.1
        have k1 := hb0.2
        have k2 := hc.1
        have k3 := hc.2
        have k4 := hreg.1
        have k5 := hreg.2
        have k6 := ha.1
        have k7 := ha.2
        have e16 : ((x.op : Int) == 16) = false := by simp [h]
        have e17 : ((x.op : Int) == 17) = false := by simp [h]
        have e45 : ((x.op : Int) == 45) = false := by simp [h]
        have e26 : ((x.op : Int) == 26) = false := by simp [h]
        have e28 : ((x.op : Int) == 28) = false := by simp [h]
        have e31 : ((x.op : Int) == 31) = false := by simp [h]
        have e24 : ((x.op : Int) == 24) = true := by simp [h]
        clear hh hy hget hr hc hb0 h HE hreg ha
        by_cases hp1 : y.params = 1
        · have u1 : ((y.params : Int) == 1) = true := by simp [hp1]
          have HF2 : Hid (fitsP p f x = decide (x.a + x.c < f.regs)) := Lib.hid (by rw [HF.out]; simp [hp1])
          clear hp1
          go_wp2
          all_goals
            go_ret
            exact ⟨retb (by rw [HF2.out]), HYB.out⟩
        · have u1 : ((y.params : Int) == 1) = false := by simp [hp1]
          have HF2 : Hid (fitsP p f x = false) := Lib.hid (by rw [HF.out]; simp [hp1])
          clear hp1
          go_wp2
          all_goals
            go_ret
            exact ⟨retb HF2.out.symm, HYB.out⟩
      have HF : Hid (fitsP p f x = true) := Lib.hid (by rw [HE.out]; unfold extraP; rw [if_neg (by omega), if_neg (by omega), if_neg (by omega)])
      have e16 : ((x.op : Int) == 16) = false := by simp; omega
      have e17 : ((x.op : Int) == 17) = false := by simp; omega
      have e45 : ((x.op : Int) == 45) = false := by simp; omega
      have e26 : ((x.op : Int) == 26) = false := by simp; omega
      have e28 : ((x.op : Int) == 28) = false := by simp; omega
      have e31 : ((x.op : Int) == 31) = false := by simp; omega
      have e24 : ((x.op : Int) == 24) = false := by simp; omega
      go_wp2
      all_goals
        go_ret
        exact ⟨retb HF.out.symm, HYB.out⟩
theorem fits_any (p : Pg) (A B D : Option Addr) (ca cb cd : Nat) (f : Fc) (Af : Option Addr) (caf : Nat) (x : In) (w : World) (H : FitAsk w p A B D ca cb cd f Af caf x) :
    Calls Tryd.prog 56 #[pv p A B D ca cb cd, fv f Af caf, xv x] w fun e w' => e = .returned (.bool (fitsP p f x)) ∧ Below w.heap.size w w' := by
  rcases rolesP_ok x with hq | ⟨q0, q1, q2, hq, ok0, ok1, ok2⟩
  · exact fits_nil p A B D ca cb cd f Af caf x w H hq
  · exact fits_some p A B D ca cb cd f Af caf x w H q0 q1 q2 hq ok0 ok1 ok2
end Go.Proofs.YtekfhgldebhigaaDoor
