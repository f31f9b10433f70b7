/-
  The walks of the specification's layouts and function.
-/
import Derived.Test.YtekfhgldebhigaaDoorRG
import Derived.Test.YtekfhgldebhigaaDoorDA
set_option linter.all false
namespace Go.Proofs.YtekfhgldebhigaaDoor
open Go.RowKit C
def rowOk (r : List Int) : Bool := r.all (fun k => decide (k = 0 ∨ k = 1)) && decide (r.length ≤ 64)
theorem layoutsB_row (l : List (List Int)) : layoutsB l = (l.all rowOk && decide (l.length ≤ 32)) := rfl
theorem all_take {α : Type} {l : List α} {P : α → Bool} {k : Nat} (h : k < l.length) : (l.take (k + 1)).all P = ((l.take k).all P && P l[k]) := by
  rw [List.take_succ_eq_append_getElem h, List.all_append]; simp
theorem all_bad {α : Type} {l : List α} {P : α → Bool} {k : Nat} (h : k < l.length) (hb : P l[k] = false) : l.all P = false := by
  rw [← Bool.not_eq_true, List.all_eq_true]
  intro a; have := a l[k] (List.getElem_mem h); rw [hb] at this; cases this
set_option maxRecDepth 100000 in
set_option maxHeartbeats 4000000 in
theorem layouts_any (A : Option Addr) (l : List (List Int)) (cap : Nat) (w : World) (hl : l.length ≤ maxLen) (hr : Row 1 (LyAt w) A l) :
    Calls Tryd.prog 18 #[.slice A l.length cap] w fun e w' => e = .returned (.bool (layoutsB l)) ∧ w = w' := by
  unfold maxLen at hl
  have HR := Lib.hid hr
  clear hr
  go_enter Tryd.func18, Tryd.ntmps18
  go_wp2
  go_loop [3] (fun i => ∃ k : Nat, k ≤ l.length ∧ i = .int .i64 k ∧ Hid ((l.take k).all rowOk = true)) (fun i => l.length - (intOf i).toNat)
  case atStart => exact ⟨0, Nat.zero_le _, rfl, Lib.hid rfl⟩
  case round =>
    obtain ⟨k, hk, rfl, hok⟩ := hrel
    by_cases hlt : k < l.length
    · obtain ⟨g, o, rfl, hh⟩ := HR.out.at (by omega)
      have hx := hh k hlt
      obtain ⟨r, hre⟩ : ∃ r, l[k] = r := ⟨_, rfl⟩
      rw [hre, Nat.mul_one] at hx
      obtain ⟨RA, rcap, q0, hrc, hrm, hrr⟩ := hx.row
      have HX := Lib.hid hre
      have HRR := Lib.hid hrr
      unfold maxLen at hrm
      clear hx hre hh hrr
      go_wp2
      go_loop [4] (fun i => ∃ j : Nat, j ≤ r.length ∧ i = .int .i64 j ∧ Hid ((r.take j).all (fun k => decide (k = 0 ∨ k = 1)) = true)) (fun i => r.length - (intOf i).toNat)
      case atStart => exact ⟨0, Nat.zero_le _, rfl, Lib.hid rfl⟩
      case round =>
        obtain ⟨j, hj, rfl, hok2⟩ := hrel
        by_cases hlt2 : j < r.length
        · obtain ⟨g2, o2, rfl, hh⟩ := HRR.out.at (by omega)
          have hx := (hh j hlt2).c0
          obtain ⟨x, hxe⟩ : ∃ x, r[j] = x := ⟨_, rfl⟩
          rw [hxe, Nat.mul_one] at hx
          have HXX := Lib.hid hxe
          clear hxe hh
          by_cases h0 : x = 0
          · have e1 : ((x : Int) != 0) = false := by simp [h0]
            go_wp2
            go_round
            case rel => exact ⟨j + 1, by omega, by go_num, Lib.hid (by rw [all_take hlt2, hok2.out, HXX.out]; simp [h0])⟩
            case measure => simp [intOf]; omega
          · have e1 : ((x : Int) != 0) = true := by simp [h0]
            by_cases h1 : x = 1
            · have e2 : ((x : Int) != 1) = false := by simp [h1]
              go_wp2
              go_round
              case rel => exact ⟨j + 1, by omega, by go_num, Lib.hid (by rw [all_take hlt2, hok2.out, HXX.out]; simp [h1])⟩
              case measure => simp [intOf]; omega
            · have e2 : ((x : Int) != 1) = true := by simp [h1]
              have HF : Hid (layoutsB l = false) := Lib.hid (by
                rw [layoutsB_row, all_bad hlt (by rw [HX.out]; unfold rowOk; rw [all_bad hlt2 (by rw [HXX.out]; simp [h0, h1])]; rfl)]; rfl)
              go_wp2
              go_ret
              exact ⟨retb HF.out.symm, rfl⟩
        · obtain rfl : j = r.length := by omega
          have hok3 := hok2.out
          rw [List.take_length] at hok3
          have HR3 := Lib.hid hok3
          clear hok3
          by_cases h64 : r.length ≤ 64
          · have d1 : decide ((64 : Int) < (r.length : Int)) = false := by simp; omega
            go_wp2
            go_round
            case rel => exact ⟨k + 1, by omega, by go_num, Lib.hid (by rw [all_take hlt, hok.out, HX.out]; unfold rowOk; rw [HR3.out]; simp [h64])⟩
            case measure => simp [intOf]; omega
          · have d1 : decide ((64 : Int) < (r.length : Int)) = true := by simp; omega
            have HF : Hid (layoutsB l = false) := Lib.hid (by
              rw [layoutsB_row, all_bad hlt (by rw [HX.out]; unfold rowOk; simp [h64])]; rfl)
            go_wp2
            go_ret
            exact ⟨retb HF.out.symm, rfl⟩
    · obtain rfl : k = l.length := by omega
      have HF : Hid (layoutsB l = decide (l.length ≤ 32)) := Lib.hid (by have := hok.out; rw [List.take_length] at this; rw [layoutsB_row, this, Bool.true_and])
      go_wp2
      go_ret
      exact ⟨retb (by rw [HF.out]; rw [Bool.eq_iff_iff]; simp; omega), rfl⟩
set_option maxRecDepth 100000 in
set_option maxHeartbeats 16000000 in
theorem function_any (p : Pg) (A B D : Option Addr) (ca cb cd : Nat) (f : Fc) (Af : Option Addr) (caf : Nat) (w : World) (hp : PgAt w p A B D ca cb cd) (hf : FvOk w f Af caf) :
    Calls Tryd.prog 19 #[pv p A B D ca cb cd, fv f Af caf] w fun e w' => e = .returned (.bool (functionB p f)) ∧ Below w.heap.size w w' := by
  have HN : Hid (B2 p A B D ca cb cd f Af caf w _) := Lib.hid (B2.new p A B D ca cb cd f Af caf w)
  have HBL := Lib.hid (below2 w (.cells #[.slice A p.funcs.length ca, .slice B p.globals.length cb, .slice D p.layouts.length cd, .int .i64 p.main] 26) (.cells #[.string f.name, .int .i64 f.params, .int .i64 f.regs, .slice Af f.code.length caf] 37))
  have hm := hf.k.2
  unfold maxLen at hm
  have HP := Lib.hid hp
  have HV := Lib.hid hf
  clear hp hf
  go_enter Tryd.func19, Tryd.ntmps19
  by_cases hn : f.name.data.toList = []
  · have n1 : f.name.toList = [] := by rw [ByteArray.toList_eq]; exact hn
    have n2 : f.name.toList.isEmpty = true := by simp [n1]
    have HE : Hid (functionB p f = false) := Lib.hid (by rw [← Bool.not_eq_true]; intro h; have hk := fn_ok h; exact hk.name hn)
    go_wp2
    go_ret
    exact ⟨retb HE.out.symm, below2 _ _ _⟩
  · have n1 : ¬ f.name.toList = [] := by rw [ByteArray.toList_eq]; exact hn
    have n2 : f.name.toList.isEmpty = false := by simp [n1]
    by_cases h1 : f.params < 0
    · have d1 : decide (f.params < 0) = true := by first | (simp; omega) | simpa using h1
      have HE : Hid (functionB p f = false) := Lib.hid (by rw [← Bool.not_eq_true]; intro h; have hk := fn_ok h; have := hk.par.1; omega)
      go_wp2
      go_ret
      exact ⟨retb HE.out.symm, below2 _ _ _⟩
    · have d1 : decide (f.params < 0) = false := by first | (simp; omega) | simpa using h1
      by_cases h2 : f.regs < f.params
      · have d2 : decide (f.regs < f.params) = true := by first | (simp; omega) | simpa using h2
        have HE : Hid (functionB p f = false) := Lib.hid (by rw [← Bool.not_eq_true]; intro h; have hk := fn_ok h; have := hk.par.2.1; omega)
        go_wp2
        go_ret
        exact ⟨retb HE.out.symm, below2 _ _ _⟩
      · have d2 : decide (f.regs < f.params) = false := by first | (simp; omega) | simpa using h2
        by_cases h3 : 64 < f.regs
        · have d3 : decide ((64 : Int) < f.regs) = true := by first | (simp; omega) | simpa using h3
          have HE : Hid (functionB p f = false) := Lib.hid (by rw [← Bool.not_eq_true]; intro h; have hk := fn_ok h; have := hk.par.2.2; omega)
          go_wp2
          go_ret
          exact ⟨retb HE.out.symm, below2 _ _ _⟩
        · have d3 : decide ((64 : Int) < f.regs) = false := by first | (simp; omega) | simpa using h3
          by_cases h4 : f.code.length = 0
          · have d4 : ((f.code.length : Int) == 0) = true := by first | (simp; omega) | simpa using h4
            have HE : Hid (functionB p f = false) := Lib.hid (by rw [← Bool.not_eq_true]; intro h; have hk := fn_ok h; have := hk.len.1; omega)
            go_wp2
            go_ret
            exact ⟨retb HE.out.symm, below2 _ _ _⟩
          · have d4 : ((f.code.length : Int) == 0) = false := by first | (simp; omega) | simpa using h4
            by_cases h5 : 1000 < f.code.length
            · have d5 : decide ((1000 : Int) < (f.code.length : Int)) = true := by first | (simp; omega) | simpa using h5
              have HE : Hid (functionB p f = false) := Lib.hid (by rw [← Bool.not_eq_true]; intro h; have hk := fn_ok h; have := hk.len.2; omega)
              go_wp2
              go_ret
              exact ⟨retb HE.out.symm, below2 _ _ _⟩
            · have d5 : decide ((1000 : Int) < (f.code.length : Int)) = false := by first | (simp; omega) | simpa using h5
              obtain ⟨y, hy⟩ : ∃ y, f.code[f.code.length - 1]'(by omega) = y := ⟨_, rfl⟩
              obtain ⟨gA, oA, rfl, hA⟩ := HV.out.row.at (by omega)
              have hh := (hA (f.code.length - 1) (by omega)).below HBL.out
              rw [hy] at hh
              have z0 := hh.c0
              have k0 : (0 : Int) ≤ (f.code.length : Int) - 1 := by omega
              have k1 : (f.code.length : Int) - 1 < (f.code.length : Int) := by omega
              have HL : Hid ((f.code.getLast?.getD default).op = y.op) := Lib.hid (by rw [last_getD (by omega), hy])
              have HAA := Lib.hid hA
              clear hh hy hA
              by_cases hl30 : y.op = 30 ∨ y.op = 16
              · have HF : Hid (functionB p f = seqB p f 0 f.code) := Lib.hid (by
                  unfold functionB
                  rw [HL.out]
                  have a1 : decide (¬ f.name.data.toList = [] ∧ 0 ≤ f.params ∧ f.params ≤ f.regs ∧ f.regs ≤ 64 ∧ 0 < f.code.length ∧ f.code.length ≤ 1000) = true := by
                    simp only [decide_eq_true_eq]; exact ⟨hn, by omega, by omega, by omega, by omega, by omega⟩
                  have a2 : decide (y.op = 30 ∨ y.op = 16) = true := by simpa using hl30
                  rw [a1, a2]; rfl)
                have HLast : Hid (y.op = 30 ∨ y.op = 16) := Lib.hid hl30
                clear HL
                by_cases e30 : y.op = 30
                · have e1 : ((y.op : Int) != 30) = false := by simp [e30]
                  clear hl30 e30
                  go_wp2
                  clear e1 z0 k0 k1
                  go_loopw [6, 7] (fun v i wr => ∃ (k : Nat) (l : Int), k ≤ f.code.length ∧ v = .int .i64 l ∧ i = .int .i64 k ∧ (-9223372036854775808 ≤ l ∧ l ≤ 9223372036854775807) ∧ Hid (seqB p f l (f.code.drop k) = seqB p f 0 f.code) ∧ Hid (B2 p A B D ca cb cd f (some ⟨gA, oA, none⟩) caf w wr)) (fun _ i _ => f.code.length - (intOf i).toNat)
                  case atStart => exact ⟨0, 0, Nat.zero_le _, rfl, rfl, by omega, Lib.hid rfl, HN⟩
                  case round =>
                    clear HN
                    obtain ⟨k, lf, hk, rfl, rfl, hlf, hsq, hbx⟩ := hrel
                    obtain ⟨y00, y01, y02, y03, y10, y11, y12, y13, yb⟩ := hbx.out
                    have HYB := Lib.hid yb
                    clear yb
                    have m0 : w.heap.size < wr.heap.size := by have := World.block_lt_of_cell? wr _ y00; simpa using this
                    have m1 : w.heap.size + 1 < wr.heap.size := by have := World.block_lt_of_cell? wr _ y10; simpa using this
                    by_cases hlt : k < f.code.length
                    · have hx := (HAA.out k hlt).below HYB.out
                      obtain ⟨x, hxe⟩ : ∃ x, f.code[k] = x := ⟨_, rfl⟩
                      rw [hxe] at hx
                      have q0 := hx.c0
                      have q1 := hx.c1
                      have q2 := hx.c2
                      have q3 := hx.c3
                      have q4 := hx.c4
                      have HX := Lib.hid hx
                      have HS : Hid (seqB p f 0 f.code = ((decide (0 < lf) == decide (x.op = 51)) && instrB p f x && seqB p f (after lf x) (f.code.drop (k + 1)))) := Lib.hid (by
                        rw [← hsq.out, List.drop_eq_getElem_cons hlt, hxe]; rfl)
                      have HI : Hid (∀ V, Hid (Below wr.heap.size wr V) → Calls Tryd.prog 49 #[pv p A B D ca cb cd, fv f (some ⟨gA, oA, none⟩) caf, xv x] V fun e w' => e = .returned (.bool (instrB p f x)) ∧ Below V.heap.size V w') := Lib.hid fun V hV =>
                        instr_any p A B D ca cb cd f (some ⟨gA, oA, none⟩) caf x V (HP.out.below (HYB.out.trans (hV.out.mono HYB.out.size))) (HV.out.below (HYB.out.trans (hV.out.mono HYB.out.size))) HX.out.b0 HX.out.b1 HX.out.b2 HX.out.b3 HX.out.b4 (by omega)
                      have hx1 := Lib.hid (BX1.new x wr)
                      have hbl := HX.out.b2
                      unfold i64 at hbl
                      have n0 : w.heap.size ≠ wr.heap.size := by omega
                      have n1 : w.heap.size + 1 ≠ wr.heap.size := by omega
                      clear hx hxe
                      by_cases hm : (decide (0 < lf) == decide (x.op = 51)) = true
                      · cases hi : instrB p f x with
                        | false =>
                          simp only [hi] at HI
                          have HE : Hid (functionB p f = false) := Lib.hid (by rw [HF.out, HS.out, hi]; simp)
                          clear hi
                          by_cases g1 : 0 < lf
                          · have g2 : x.op = 51 := by simpa [g1] using hm
                            have d1 : decide (0 < lf) = true := by simpa using g1
                            have d2 : ((x.op : Int) == 51) = true := by simp [g2]
                            clear hm g2
                            go_wp2_with (go_at_call 49; (with_reducible refine (HI.out _ (Lib.hid (below1 _ _))).mono ?_); rintro e w3 ⟨rfl, hw3⟩)
                            go_ret
                            exact ⟨retb HE.out.symm, HYB.out.trans (((below1 _ _).trans (hw3.mono (by simp))).mono HYB.out.size)⟩
                          · have g2 : ¬ x.op = 51 := by simpa [g1] using hm
                            have d1 : decide (0 < lf) = false := by simpa using g1
                            have d2 : ((x.op : Int) == 51) = false := by simp [g2]
                            clear hm g2
                            go_wp2_with (go_at_call 49; (with_reducible refine (HI.out _ (Lib.hid (below1 _ _))).mono ?_); rintro e w3 ⟨rfl, hw3⟩)
                            go_ret
                            exact ⟨retb HE.out.symm, HYB.out.trans (((below1 _ _).trans (hw3.mono (by simp))).mono HYB.out.size)⟩
                        | true =>
                          simp only [hi] at HI
                          have HE : Hid (seqB p f (after lf x) (f.code.drop (k + 1)) = seqB p f 0 f.code) := Lib.hid (by rw [HS.out, hi, hm]; rfl)
                          clear hi
                          by_cases g1 : 0 < lf
                          · have g2 : x.op = 51 := by simpa [g1] using hm
                            have d1 : decide (0 < lf) = true := by simpa using g1
                            have d2 : ((x.op : Int) == 51) = true := by simp [g2]
                            have d3 : ((x.op : Int) == 50) = false := by simp [g2]
                            have HAf : Hid (after lf x = lf - 1) := Lib.hid (by unfold after; rw [if_neg (by omega), if_pos g1])
                            clear hm g2
                            go_wp2_with (go_at_call 49; (with_reducible refine (HI.out _ (Lib.hid (below1 _ _))).mono ?_); rintro e w3 ⟨rfl, hw3⟩; have hx3 := hx1.out.keep hw3; obtain ⟨z0, z1, z2, z3, z4, zb⟩ := hx3; clear zb)
                            go_roundw
                            case rel => exact ⟨k + 1, lf - 1, by omega, by go_num, by go_num, by omega, Lib.hid (by rw [← HAf.out]; exact HE.out), Lib.hid ((hbx.out.keep (below1 _ _)).keep hw3)⟩
                            case measure => simp [intOf]; omega
                          · have g2 : ¬ x.op = 51 := by simpa [g1] using hm
                            have d1 : decide (0 < lf) = false := by simpa using g1
                            have d2 : ((x.op : Int) == 51) = false := by simp [g2]
                            clear hm g2
                            by_cases g3 : x.op = 50
                            · have d3 : ((x.op : Int) == 50) = true := by simp [g3]
                              have HAf : Hid (after lf x = x.b) := Lib.hid (by unfold after; rw [if_pos g3])
                              clear g3
                              go_wp2_with (go_at_call 49; (with_reducible refine (HI.out _ (Lib.hid (below1 _ _))).mono ?_); rintro e w3 ⟨rfl, hw3⟩; have hx3 := hx1.out.keep hw3; obtain ⟨z0, z1, z2, z3, z4, zb⟩ := hx3; clear zb)
                              go_roundw
                              case rel => exact ⟨k + 1, x.b, by omega, by go_num, by go_num, by omega, Lib.hid (by rw [← HAf.out]; exact HE.out), Lib.hid ((hbx.out.keep (below1 _ _)).keep hw3)⟩
                              case measure => simp [intOf]; omega
                            · have d3 : ((x.op : Int) == 50) = false := by simp [g3]
                              have HAf : Hid (after lf x = lf) := Lib.hid (by unfold after; rw [if_neg g3, if_neg g1])
                              clear g3
                              go_wp2_with (go_at_call 49; (with_reducible refine (HI.out _ (Lib.hid (below1 _ _))).mono ?_); rintro e w3 ⟨rfl, hw3⟩; have hx3 := hx1.out.keep hw3; obtain ⟨z0, z1, z2, z3, z4, zb⟩ := hx3; clear zb)
                              go_roundw
                              case rel => exact ⟨k + 1, lf, by omega, by go_num, by go_num, by omega, Lib.hid (by rw [← HAf.out]; exact HE.out), Lib.hid ((hbx.out.keep (below1 _ _)).keep hw3)⟩
                              case measure => simp [intOf]; omega
                      · have HE : Hid (functionB p f = false) := Lib.hid (by rw [HF.out, HS.out]; simp only [Bool.not_eq_true] at hm; rw [hm]; rfl)
                        by_cases g1 : 0 < lf
                        · have g2 : ¬ x.op = 51 := by simpa [g1] using hm
                          have d1 : decide (0 < lf) = true := by simpa using g1
                          have d2 : ((x.op : Int) == 51) = false := by simp [g2]
                          clear hm g2
                          go_wp2
                          go_ret
                          exact ⟨retb HE.out.symm, HYB.out.trans ((below1 _ _).mono HYB.out.size)⟩
                        · have g2 : x.op = 51 := by simpa [g1] using hm
                          have d1 : decide (0 < lf) = false := by simpa using g1
                          have d2 : ((x.op : Int) == 51) = true := by simp [g2]
                          clear hm g2
                          go_wp2
                          go_ret
                          exact ⟨retb HE.out.symm, HYB.out.trans ((below1 _ _).mono HYB.out.size)⟩
                    · obtain rfl : k = f.code.length := by omega
                      have HE : Hid (functionB p f = true) := Lib.hid (by rw [HF.out, ← hsq.out, List.drop_length]; rfl)
                      go_wp2
                      go_ret
                      exact ⟨retb HE.out.symm, HYB.out⟩
                · have e1 : ((y.op : Int) != 30) = true := by simp [e30]
                  have e2 : ((y.op : Int) != 16) = false := by simp; omega
                  clear hl30 e30
                  go_wp2
                  clear e1 z0 k0 k1
                  go_loopw [6, 7] (fun v i wr => ∃ (k : Nat) (l : Int), k ≤ f.code.length ∧ v = .int .i64 l ∧ i = .int .i64 k ∧ (-9223372036854775808 ≤ l ∧ l ≤ 9223372036854775807) ∧ Hid (seqB p f l (f.code.drop k) = seqB p f 0 f.code) ∧ Hid (B2 p A B D ca cb cd f (some ⟨gA, oA, none⟩) caf w wr)) (fun _ i _ => f.code.length - (intOf i).toNat)
                  case atStart => exact ⟨0, 0, Nat.zero_le _, rfl, rfl, by omega, Lib.hid rfl, HN⟩
                  case round =>
                    clear HN
                    obtain ⟨k, lf, hk, rfl, rfl, hlf, hsq, hbx⟩ := hrel
                    obtain ⟨y00, y01, y02, y03, y10, y11, y12, y13, yb⟩ := hbx.out
                    have HYB := Lib.hid yb
                    clear yb
                    have m0 : w.heap.size < wr.heap.size := by have := World.block_lt_of_cell? wr _ y00; simpa using this
                    have m1 : w.heap.size + 1 < wr.heap.size := by have := World.block_lt_of_cell? wr _ y10; simpa using this
                    by_cases hlt : k < f.code.length
                    · have hx := (HAA.out k hlt).below HYB.out
                      obtain ⟨x, hxe⟩ : ∃ x, f.code[k] = x := ⟨_, rfl⟩
                      rw [hxe] at hx
                      have q0 := hx.c0
                      have q1 := hx.c1
                      have q2 := hx.c2
                      have q3 := hx.c3
                      have q4 := hx.c4
                      have HX := Lib.hid hx
                      have HS : Hid (seqB p f 0 f.code = ((decide (0 < lf) == decide (x.op = 51)) && instrB p f x && seqB p f (after lf x) (f.code.drop (k + 1)))) := Lib.hid (by
                        rw [← hsq.out, List.drop_eq_getElem_cons hlt, hxe]; rfl)
                      have HI : Hid (∀ V, Hid (Below wr.heap.size wr V) → Calls Tryd.prog 49 #[pv p A B D ca cb cd, fv f (some ⟨gA, oA, none⟩) caf, xv x] V fun e w' => e = .returned (.bool (instrB p f x)) ∧ Below V.heap.size V w') := Lib.hid fun V hV =>
                        instr_any p A B D ca cb cd f (some ⟨gA, oA, none⟩) caf x V (HP.out.below (HYB.out.trans (hV.out.mono HYB.out.size))) (HV.out.below (HYB.out.trans (hV.out.mono HYB.out.size))) HX.out.b0 HX.out.b1 HX.out.b2 HX.out.b3 HX.out.b4 (by omega)
                      have hx1 := Lib.hid (BX1.new x wr)
                      have hbl := HX.out.b2
                      unfold i64 at hbl
                      have n0 : w.heap.size ≠ wr.heap.size := by omega
                      have n1 : w.heap.size + 1 ≠ wr.heap.size := by omega
                      clear hx hxe
                      by_cases hm : (decide (0 < lf) == decide (x.op = 51)) = true
                      · cases hi : instrB p f x with
                        | false =>
                          simp only [hi] at HI
                          have HE : Hid (functionB p f = false) := Lib.hid (by rw [HF.out, HS.out, hi]; simp)
                          clear hi
                          by_cases g1 : 0 < lf
                          · have g2 : x.op = 51 := by simpa [g1] using hm
                            have d1 : decide (0 < lf) = true := by simpa using g1
                            have d2 : ((x.op : Int) == 51) = true := by simp [g2]
                            clear hm g2
                            go_wp2_with (go_at_call 49; (with_reducible refine (HI.out _ (Lib.hid (below1 _ _))).mono ?_); rintro e w3 ⟨rfl, hw3⟩)
                            go_ret
                            exact ⟨retb HE.out.symm, HYB.out.trans (((below1 _ _).trans (hw3.mono (by simp))).mono HYB.out.size)⟩
                          · have g2 : ¬ x.op = 51 := by simpa [g1] using hm
                            have d1 : decide (0 < lf) = false := by simpa using g1
                            have d2 : ((x.op : Int) == 51) = false := by simp [g2]
                            clear hm g2
                            go_wp2_with (go_at_call 49; (with_reducible refine (HI.out _ (Lib.hid (below1 _ _))).mono ?_); rintro e w3 ⟨rfl, hw3⟩)
                            go_ret
                            exact ⟨retb HE.out.symm, HYB.out.trans (((below1 _ _).trans (hw3.mono (by simp))).mono HYB.out.size)⟩
                        | true =>
                          simp only [hi] at HI
                          have HE : Hid (seqB p f (after lf x) (f.code.drop (k + 1)) = seqB p f 0 f.code) := Lib.hid (by rw [HS.out, hi, hm]; rfl)
                          clear hi
                          by_cases g1 : 0 < lf
                          · have g2 : x.op = 51 := by simpa [g1] using hm
                            have d1 : decide (0 < lf) = true := by simpa using g1
                            have d2 : ((x.op : Int) == 51) = true := by simp [g2]
                            have d3 : ((x.op : Int) == 50) = false := by simp [g2]
                            have HAf : Hid (after lf x = lf - 1) := Lib.hid (by unfold after; rw [if_neg (by omega), if_pos g1])
                            clear hm g2
                            go_wp2_with (go_at_call 49; (with_reducible refine (HI.out _ (Lib.hid (below1 _ _))).mono ?_); rintro e w3 ⟨rfl, hw3⟩; have hx3 := hx1.out.keep hw3; obtain ⟨z0, z1, z2, z3, z4, zb⟩ := hx3; clear zb)
                            go_roundw
                            case rel => exact ⟨k + 1, lf - 1, by omega, by go_num, by go_num, by omega, Lib.hid (by rw [← HAf.out]; exact HE.out), Lib.hid ((hbx.out.keep (below1 _ _)).keep hw3)⟩
                            case measure => simp [intOf]; omega
                          · have g2 : ¬ x.op = 51 := by simpa [g1] using hm
                            have d1 : decide (0 < lf) = false := by simpa using g1
                            have d2 : ((x.op : Int) == 51) = false := by simp [g2]
                            clear hm g2
                            by_cases g3 : x.op = 50
                            · have d3 : ((x.op : Int) == 50) = true := by simp [g3]
                              have HAf : Hid (after lf x = x.b) := Lib.hid (by unfold after; rw [if_pos g3])
                              clear g3
                              go_wp2_with (go_at_call 49; (with_reducible refine (HI.out _ (Lib.hid (below1 _ _))).mono ?_); rintro e w3 ⟨rfl, hw3⟩; have hx3 := hx1.out.keep hw3; obtain ⟨z0, z1, z2, z3, z4, zb⟩ := hx3; clear zb)
                              go_roundw
                              case rel => exact ⟨k + 1, x.b, by omega, by go_num, by go_num, by omega, Lib.hid (by rw [← HAf.out]; exact HE.out), Lib.hid ((hbx.out.keep (below1 _ _)).keep hw3)⟩
                              case measure => simp [intOf]; omega
                            · have d3 : ((x.op : Int) == 50) = false := by simp [g3]
                              have HAf : Hid (after lf x = lf) := Lib.hid (by unfold after; rw [if_neg g3, if_neg g1])
                              clear g3
                              go_wp2_with (go_at_call 49; (with_reducible refine (HI.out _ (Lib.hid (below1 _ _))).mono ?_); rintro e w3 ⟨rfl, hw3⟩; have hx3 := hx1.out.keep hw3; obtain ⟨z0, z1, z2, z3, z4, zb⟩ := hx3; clear zb)
                              go_roundw
                              case rel => exact ⟨k + 1, lf, by omega, by go_num, by go_num, by omega, Lib.hid (by rw [← HAf.out]; exact HE.out), Lib.hid ((hbx.out.keep (below1 _ _)).keep hw3)⟩
                              case measure => simp [intOf]; omega
                      · have HE : Hid (functionB p f = false) := Lib.hid (by rw [HF.out, HS.out]; simp only [Bool.not_eq_true] at hm; rw [hm]; rfl)
                        by_cases g1 : 0 < lf
                        · have g2 : ¬ x.op = 51 := by simpa [g1] using hm
                          have d1 : decide (0 < lf) = true := by simpa using g1
                          have d2 : ((x.op : Int) == 51) = false := by simp [g2]
                          clear hm g2
                          go_wp2
                          go_ret
                          exact ⟨retb HE.out.symm, HYB.out.trans ((below1 _ _).mono HYB.out.size)⟩
                        · have g2 : x.op = 51 := by simpa [g1] using hm
                          have d1 : decide (0 < lf) = false := by simpa using g1
                          have d2 : ((x.op : Int) == 51) = true := by simp [g2]
                          clear hm g2
                          go_wp2
                          go_ret
                          exact ⟨retb HE.out.symm, HYB.out.trans ((below1 _ _).mono HYB.out.size)⟩
                    · obtain rfl : k = f.code.length := by omega
                      have HE : Hid (functionB p f = true) := Lib.hid (by rw [HF.out, ← hsq.out, List.drop_length]; rfl)
                      go_wp2
                      go_ret
                      exact ⟨retb HE.out.symm, HYB.out⟩
              · have HE : Hid (functionB p f = false) := Lib.hid (by rw [← Bool.not_eq_true]; intro h; have hk := (fn_ok h).last; rw [HL.out] at hk; exact hl30 hk)
                have e1 : ((y.op : Int) != 30) = true := by simp; omega
                have e2 : ((y.op : Int) != 16) = true := by simp; omega
                clear hl30
                go_wp2
                go_ret
                exact ⟨retb HE.out.symm, below2 _ _ _⟩
end Go.Proofs.YtekfhgldebhigaaDoor
