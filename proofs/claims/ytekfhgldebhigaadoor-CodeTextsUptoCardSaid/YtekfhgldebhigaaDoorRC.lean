/-
  The walk of the specification's operand: the role of a function; operand in one word.
-/
import Derived.Test.YtekfhgldebhigaaDoorRB
set_option linter.all false
namespace Go.Proofs.YtekfhgldebhigaaDoor
open Go.RowKit C
set_option maxRecDepth 100000 in
set_option maxHeartbeats 4000000 in
theorem op_f (p : Pg) (A B D : Option Addr) (ca cb cd : Nat) (f : Fc) (Af : Option Addr) (caf : Nat) (x : In) (v : Int) (w : World) (hp : PgAt w p A B D ca cb cd) (hf : FvOk w f Af caf) (bx : i64 x.c) (bv : i64 v) : Calls Tryd.prog 64 #[pv p A B D ca cb cd, fv f Af caf, xv x, .int .u8 102, .int .i64 v] w fun e w' => e = .returned (.bool (operandB p f x 102 v)) ∧ Below w.heap.size w w' := by
  have HB := belowA w (.cells #[.slice A p.funcs.length ca, .slice B p.globals.length cb, .slice D p.layouts.length cd, .int .i64 p.main] 26) (.cells #[.string f.name, .int .i64 f.params, .int .i64 f.regs, .slice Af f.code.length caf] 37) (.cells #[.int .i64 x.op, .int .i64 x.a, .int .i64 x.b, .int .i64 x.c, .int .i64 x.at'] 34)
  by_cases h0 : 0 ≤ v
  · by_cases h1 : v < (p.funcs.length : Int)
    · by_cases h3 : 0 ≤ x.c
      · obtain ⟨g, o, rfl, hr⟩ := hp.fs.at (by omega)
        have hh := (hr v.toNat (by omega)).below HB
        have hget := getD_at h0 h1
        obtain ⟨y, hy⟩ : ∃ y, p.funcs[v.toNat]'(by omega) = y := ⟨_, rfl⟩
        rw [hy] at hh hget
        rw [List.getD_eq_getElem?_getD] at hget
        have q1 := hh.c1
        have hfin : operandB p f x 102 v = decide (x.c ≤ wrap64 (f.regs - y.params)) := by rw [Bool.eq_iff_iff]; simp [operandB, C.len, h0, h1, h3, hget, hy]
        rw [hfin]
        clear hh hy hget hr hfin
        go_enter Tryd.func64, Tryd.ntmps64
        go_wp2_with fail
        go_quiet (fail)
        go_wp2
        all_goals
          go_ret
          exact ⟨rfl, bel_drewN (belowA _ _ _ _) _⟩
      · have h2 : decide (0 ≤ x.c) = false := by simp; omega
        have hfin : operandB p f x 102 v = false := by simp [operandB, C.len]; intros; omega
        rw [hfin]
        go_enter Tryd.func64, Tryd.ntmps64
        go_wp2_with fail
        go_quiet (fail)
        go_wp2
        all_goals
          go_ret
          exact ⟨rfl, bel_drewN (belowA _ _ _ _) _⟩
    · have h2 : decide (v < (p.funcs.length : Int)) = false := by simp; omega
      have hfin : operandB p f x 102 v = false := by simp [operandB, C.len]; intros; omega
      rw [hfin]
      go_enter Tryd.func64, Tryd.ntmps64
      go_wp2_with fail
      go_quiet (fail)
      go_wp2
      all_goals
        go_ret
        exact ⟨rfl, bel_drewN (belowA _ _ _ _) _⟩
  · have h2 : decide (0 ≤ v) = false := by simp; omega
    have hfin : operandB p f x 102 v = false := by simp [operandB, C.len]; intros; omega
    rw [hfin]
    go_enter Tryd.func64, Tryd.ntmps64
    go_wp2_with fail
    go_quiet (fail)
    go_wp2
    all_goals
      go_ret
      exact ⟨rfl, bel_drewN (belowA _ _ _ _) _⟩
end Go.Proofs.YtekfhgldebhigaaDoor
