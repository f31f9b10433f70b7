/-
  The walk of the specification's operand, by roles.
-/
import Derived.Test.YtekfhgldebhigaaDoorRA
set_option linter.all false
namespace Go.Proofs.YtekfhgldebhigaaDoor
open Go.RowKit C
/-- A function, an instruction as values. -/
abbrev fv (f : Fc) (A : Option Addr) (ca : Nat) : Value := .agg #[.string f.name, .int .i64 f.params, .int .i64 f.regs, .slice A f.code.length ca]
abbrev xv (x : In) : Value := .agg #[.int .i64 x.op, .int .i64 x.a, .int .i64 x.b, .int .i64 x.c, .int .i64 x.at']
structure FvOk (w : World) (f : Fc) (A : Option Addr) (ca : Nat) : Prop where
  row : Row 5 (InAt w) A f.code
  k : f.code.length ≤ ca ∧ f.code.length ≤ maxLen
  b1 : i64 f.params
  b2 : i64 f.regs
theorem FvOk.below {W w : World} {f : Fc} {A : Option Addr} {ca : Nat} (h : FvOk W f A ca) (hb : Below W.heap.size W w) : FvOk w f A ca :=
  ⟨h.row.imp fun x g o q => q.below hb, h.k, h.b1, h.b2⟩
theorem belowA (w : World) (o1 o2 o3 : Obj) : Below w.heap.size w (((w.alloc o1).alloc o2).alloc o3) := (((Below.refl _ _).alloc (Nat.le_refl _) o1).alloc (by simp) o2).alloc (by simp; omega) o3
theorem opB_g (p : Pg) (f : Fc) (x : In) (v : Int) : operandB p f x 103 v = decide (0 ≤ v ∧ v < (p.globals.length : Int)) := by
  have h : operandB p f x 103 v = decide (0 ≤ v ∧ v < C.len p.globals) := by simp [operandB]
  exact h
theorem opB_l (p : Pg) (f : Fc) (x : In) (v : Int) : operandB p f x 108 v = decide (0 ≤ v ∧ v < (p.layouts.length : Int)) := by
  have h : operandB p f x 108 v = decide (0 ≤ v ∧ v < C.len p.layouts) := by simp [operandB]
  exact h
theorem retb {a b : Bool} (h : a = b) : Ending.returned (.bool a) = .returned (.bool b) := by rw [h]
set_option maxRecDepth 100000 in
set_option maxHeartbeats 4000000 in
theorem op_d (p : Pg) (A B D : Option Addr) (ca cb cd : Nat) (f : Fc) (Af : Option Addr) (caf : Nat) (x : In) (v : Int) (w : World) : Calls Tryd.prog 64 #[pv p A B D ca cb cd, fv f Af caf, xv x, .int .u8 100, .int .i64 v] w fun e w' => e = .returned (.bool (operandB p f x 100 v)) ∧ Below w.heap.size w w' := by
  go_enter Tryd.func64, Tryd.ntmps64
  go_wp2
  all_goals
    go_ret
    exact ⟨retb (by first | (simp_all [operandB, C.len]; done) | (simp_all [operandB, C.len]; omega) | (rw [Bool.eq_iff_iff]; simp [operandB, C.len]; omega) | (rw [Bool.eq_iff_iff]; simp [operandB, C.len]; intros; omega) | (simp [operandB, C.len]; intros; omega) | (rw [Bool.eq_iff_iff]; simp [operandB, C.len]; done) | (simp [operandB, C.len]; omega)), belowA _ _ _ _⟩
set_option maxRecDepth 100000 in
set_option maxHeartbeats 4000000 in
theorem op_r (p : Pg) (A B D : Option Addr) (ca cb cd : Nat) (f : Fc) (Af : Option Addr) (caf : Nat) (x : In) (v : Int) (w : World) : Calls Tryd.prog 64 #[pv p A B D ca cb cd, fv f Af caf, xv x, .int .u8 114, .int .i64 v] w fun e w' => e = .returned (.bool (operandB p f x 114 v)) ∧ Below w.heap.size w w' := by
  go_enter Tryd.func64, Tryd.ntmps64
  go_wp2
  all_goals
    go_ret
    exact ⟨retb (by first | (simp_all [operandB, C.len]; done) | (simp_all [operandB, C.len]; omega) | (rw [Bool.eq_iff_iff]; simp [operandB, C.len]; omega) | (rw [Bool.eq_iff_iff]; simp [operandB, C.len]; intros; omega) | (simp [operandB, C.len]; intros; omega) | (rw [Bool.eq_iff_iff]; simp [operandB, C.len]; done) | (simp [operandB, C.len]; omega)), belowA _ _ _ _⟩
set_option maxRecDepth 100000 in
set_option maxHeartbeats 4000000 in
theorem op_dd (p : Pg) (A B D : Option Addr) (ca cb cd : Nat) (f : Fc) (Af : Option Addr) (caf : Nat) (x : In) (v : Int) (w : World) : Calls Tryd.prog 64 #[pv p A B D ca cb cd, fv f Af caf, xv x, .int .u8 68, .int .i64 v] w fun e w' => e = .returned (.bool (operandB p f x 68 v)) ∧ Below w.heap.size w w' := by
  go_enter Tryd.func64, Tryd.ntmps64
  go_wp2
  all_goals
    go_ret
    exact ⟨retb (by first | (simp_all [operandB, C.len]; done) | (simp_all [operandB, C.len]; omega) | (rw [Bool.eq_iff_iff]; simp [operandB, C.len]; omega) | (rw [Bool.eq_iff_iff]; simp [operandB, C.len]; intros; omega) | (simp [operandB, C.len]; intros; omega) | (rw [Bool.eq_iff_iff]; simp [operandB, C.len]; done) | (simp [operandB, C.len]; omega)), belowA _ _ _ _⟩
set_option maxRecDepth 100000 in
set_option maxHeartbeats 4000000 in
theorem op_rr (p : Pg) (A B D : Option Addr) (ca cb cd : Nat) (f : Fc) (Af : Option Addr) (caf : Nat) (x : In) (v : Int) (w : World) : Calls Tryd.prog 64 #[pv p A B D ca cb cd, fv f Af caf, xv x, .int .u8 82, .int .i64 v] w fun e w' => e = .returned (.bool (operandB p f x 82 v)) ∧ Below w.heap.size w w' := by
  go_enter Tryd.func64, Tryd.ntmps64
  go_wp2
  all_goals
    go_ret
    exact ⟨retb (by first | (simp_all [operandB, C.len]; done) | (simp_all [operandB, C.len]; omega) | (rw [Bool.eq_iff_iff]; simp [operandB, C.len]; omega) | (rw [Bool.eq_iff_iff]; simp [operandB, C.len]; intros; omega) | (simp [operandB, C.len]; intros; omega) | (rw [Bool.eq_iff_iff]; simp [operandB, C.len]; done) | (simp [operandB, C.len]; omega)), belowA _ _ _ _⟩
set_option maxRecDepth 100000 in
set_option maxHeartbeats 4000000 in
theorem op_n (p : Pg) (A B D : Option Addr) (ca cb cd : Nat) (f : Fc) (Af : Option Addr) (caf : Nat) (x : In) (v : Int) (w : World) : Calls Tryd.prog 64 #[pv p A B D ca cb cd, fv f Af caf, xv x, .int .u8 110, .int .i64 v] w fun e w' => e = .returned (.bool (operandB p f x 110 v)) ∧ Below w.heap.size w w' := by
  go_enter Tryd.func64, Tryd.ntmps64
  go_wp2
  all_goals
    go_ret
    exact ⟨retb (by first | (simp_all [operandB, C.len]; done) | (simp_all [operandB, C.len]; omega) | (rw [Bool.eq_iff_iff]; simp [operandB, C.len]; omega) | (rw [Bool.eq_iff_iff]; simp [operandB, C.len]; intros; omega) | (simp [operandB, C.len]; intros; omega) | (rw [Bool.eq_iff_iff]; simp [operandB, C.len]; done) | (simp [operandB, C.len]; omega)), belowA _ _ _ _⟩
set_option maxRecDepth 100000 in
set_option maxHeartbeats 4000000 in
theorem op_a (p : Pg) (A B D : Option Addr) (ca cb cd : Nat) (f : Fc) (Af : Option Addr) (caf : Nat) (x : In) (v : Int) (w : World) : Calls Tryd.prog 64 #[pv p A B D ca cb cd, fv f Af caf, xv x, .int .u8 97, .int .i64 v] w fun e w' => e = .returned (.bool (operandB p f x 97 v)) ∧ Below w.heap.size w w' := by
  go_enter Tryd.func64, Tryd.ntmps64
  go_wp2
  all_goals
    go_ret
    exact ⟨retb (by first | (simp_all [operandB, C.len]; done) | (simp_all [operandB, C.len]; omega) | (rw [Bool.eq_iff_iff]; simp [operandB, C.len]; omega) | (rw [Bool.eq_iff_iff]; simp [operandB, C.len]; intros; omega) | (simp [operandB, C.len]; intros; omega) | (rw [Bool.eq_iff_iff]; simp [operandB, C.len]; done) | (simp [operandB, C.len]; omega)), belowA _ _ _ _⟩
set_option maxRecDepth 100000 in
set_option maxHeartbeats 4000000 in
theorem op_s (p : Pg) (A B D : Option Addr) (ca cb cd : Nat) (f : Fc) (Af : Option Addr) (caf : Nat) (x : In) (v : Int) (w : World) : Calls Tryd.prog 64 #[pv p A B D ca cb cd, fv f Af caf, xv x, .int .u8 115, .int .i64 v] w fun e w' => e = .returned (.bool (operandB p f x 115 v)) ∧ Below w.heap.size w w' := by
  go_enter Tryd.func64, Tryd.ntmps64
  go_wp2
  all_goals
    go_ret
    exact ⟨retb (by first | (simp_all [operandB, C.len]; done) | (simp_all [operandB, C.len]; omega) | (rw [Bool.eq_iff_iff]; simp [operandB, C.len]; omega) | (rw [Bool.eq_iff_iff]; simp [operandB, C.len]; intros; omega) | (simp [operandB, C.len]; intros; omega) | (rw [Bool.eq_iff_iff]; simp [operandB, C.len]; done) | (simp [operandB, C.len]; omega)), belowA _ _ _ _⟩
set_option maxRecDepth 100000 in
set_option maxHeartbeats 4000000 in
theorem op_b (p : Pg) (A B D : Option Addr) (ca cb cd : Nat) (f : Fc) (Af : Option Addr) (caf : Nat) (x : In) (v : Int) (w : World) : Calls Tryd.prog 64 #[pv p A B D ca cb cd, fv f Af caf, xv x, .int .u8 98, .int .i64 v] w fun e w' => e = .returned (.bool (operandB p f x 98 v)) ∧ Below w.heap.size w w' := by
  go_enter Tryd.func64, Tryd.ntmps64
  go_wp2
  all_goals
    go_ret
    exact ⟨retb (by first | (simp_all [operandB, C.len]; done) | (simp_all [operandB, C.len]; omega) | (rw [Bool.eq_iff_iff]; simp [operandB, C.len]; omega) | (rw [Bool.eq_iff_iff]; simp [operandB, C.len]; intros; omega) | (simp [operandB, C.len]; intros; omega) | (rw [Bool.eq_iff_iff]; simp [operandB, C.len]; done) | (simp [operandB, C.len]; omega)), belowA _ _ _ _⟩
set_option maxRecDepth 100000 in
set_option maxHeartbeats 4000000 in
theorem op_c (p : Pg) (A B D : Option Addr) (ca cb cd : Nat) (f : Fc) (Af : Option Addr) (caf : Nat) (x : In) (v : Int) (w : World) : Calls Tryd.prog 64 #[pv p A B D ca cb cd, fv f Af caf, xv x, .int .u8 99, .int .i64 v] w fun e w' => e = .returned (.bool (operandB p f x 99 v)) ∧ Below w.heap.size w w' := by
  go_enter Tryd.func64, Tryd.ntmps64
  go_wp2
  all_goals
    go_ret
    exact ⟨retb (by first | (simp_all [operandB, C.len]; done) | (simp_all [operandB, C.len]; omega) | (rw [Bool.eq_iff_iff]; simp [operandB, C.len]; omega) | (rw [Bool.eq_iff_iff]; simp [operandB, C.len]; intros; omega) | (simp [operandB, C.len]; intros; omega) | (rw [Bool.eq_iff_iff]; simp [operandB, C.len]; done) | (simp [operandB, C.len]; omega)), belowA _ _ _ _⟩
set_option maxRecDepth 100000 in
set_option maxHeartbeats 4000000 in
theorem op_z (p : Pg) (A B D : Option Addr) (ca cb cd : Nat) (f : Fc) (Af : Option Addr) (caf : Nat) (x : In) (v : Int) (w : World) : Calls Tryd.prog 64 #[pv p A B D ca cb cd, fv f Af caf, xv x, .int .u8 45, .int .i64 v] w fun e w' => e = .returned (.bool (operandB p f x 45 v)) ∧ Below w.heap.size w w' := by
  go_enter Tryd.func64, Tryd.ntmps64
  go_wp2
  all_goals
    go_ret
    exact ⟨retb (by first | (simp_all [operandB, C.len]; done) | (simp_all [operandB, C.len]; omega) | (rw [Bool.eq_iff_iff]; simp [operandB, C.len]; omega) | (rw [Bool.eq_iff_iff]; simp [operandB, C.len]; intros; omega) | (simp [operandB, C.len]; intros; omega) | (rw [Bool.eq_iff_iff]; simp [operandB, C.len]; done) | (simp [operandB, C.len]; omega)), belowA _ _ _ _⟩
set_option maxRecDepth 100000 in
set_option maxHeartbeats 4000000 in
theorem op_i (p : Pg) (A B D : Option Addr) (ca cb cd : Nat) (f : Fc) (Af : Option Addr) (caf : Nat) (x : In) (v : Int) (w : World) : Calls Tryd.prog 64 #[pv p A B D ca cb cd, fv f Af caf, xv x, .int .u8 105, .int .i64 v] w fun e w' => e = .returned (.bool (operandB p f x 105 v)) ∧ Below w.heap.size w w' := by
  go_enter Tryd.func64, Tryd.ntmps64
  go_wp2
  all_goals
    go_ret
    exact ⟨retb (by first | (simp_all [operandB, C.len]; done) | (simp_all [operandB, C.len]; omega) | (rw [Bool.eq_iff_iff]; simp [operandB, C.len]; omega) | (rw [Bool.eq_iff_iff]; simp [operandB, C.len]; intros; omega) | (simp [operandB, C.len]; intros; omega) | (rw [Bool.eq_iff_iff]; simp [operandB, C.len]; done) | (simp [operandB, C.len]; omega)), belowA _ _ _ _⟩
set_option maxRecDepth 100000 in
set_option maxHeartbeats 4000000 in
theorem op_g (p : Pg) (A B D : Option Addr) (ca cb cd : Nat) (f : Fc) (Af : Option Addr) (caf : Nat) (x : In) (v : Int) (w : World) : Calls Tryd.prog 64 #[pv p A B D ca cb cd, fv f Af caf, xv x, .int .u8 103, .int .i64 v] w fun e w' => e = .returned (.bool (operandB p f x 103 v)) ∧ Below w.heap.size w w' := by
  rw [opB_g]
  go_enter Tryd.func64, Tryd.ntmps64
  go_wp2
  all_goals
    go_ret
    exact ⟨retb (by first | (rw [Bool.eq_iff_iff]; simp; omega) | (symm; rw [decide_eq_false_iff_not]; omega) | (simp_all; done)), belowA _ _ _ _⟩
set_option maxRecDepth 100000 in
set_option maxHeartbeats 4000000 in
theorem op_l (p : Pg) (A B D : Option Addr) (ca cb cd : Nat) (f : Fc) (Af : Option Addr) (caf : Nat) (x : In) (v : Int) (w : World) : Calls Tryd.prog 64 #[pv p A B D ca cb cd, fv f Af caf, xv x, .int .u8 108, .int .i64 v] w fun e w' => e = .returned (.bool (operandB p f x 108 v)) ∧ Below w.heap.size w w' := by
  rw [opB_l]
  go_enter Tryd.func64, Tryd.ntmps64
  go_wp2
  all_goals
    go_ret
    exact ⟨retb (by first | (rw [Bool.eq_iff_iff]; simp; omega) | (symm; rw [decide_eq_false_iff_not]; omega) | (simp_all; done)), belowA _ _ _ _⟩
theorem getD_at {α : Type} [Inhabited α] {l : List α} {v : Int} (h0 : 0 ≤ v) (h1 : v < (l.length : Int)) : l.getD v.toNat default = l[v.toNat]'(by omega) := by
  rw [List.getD_eq_getElem?_getD, List.getElem?_eq_getElem (by omega)]; rfl
set_option maxRecDepth 100000 in
set_option maxHeartbeats 4000000 in
theorem op_j (p : Pg) (A B D : Option Addr) (ca cb cd : Nat) (f : Fc) (Af : Option Addr) (caf : Nat) (x : In) (v : Int) (w : World) (hp : PgAt w p A B D ca cb cd) (hf : FvOk w f Af caf) (bx : i64 x.c) (bv : i64 v) : Calls Tryd.prog 64 #[pv p A B D ca cb cd, fv f Af caf, xv x, .int .u8 106, .int .i64 v] w fun e w' => e = .returned (.bool (operandB p f x 106 v)) ∧ Below w.heap.size w w' := by
  have HB := belowA w (.cells #[.slice A p.funcs.length ca, .slice B p.globals.length cb, .slice D p.layouts.length cd, .int .i64 p.main] 26) (.cells #[.string f.name, .int .i64 f.params, .int .i64 f.regs, .slice Af f.code.length caf] 37) (.cells #[.int .i64 x.op, .int .i64 x.a, .int .i64 x.b, .int .i64 x.c, .int .i64 x.at'] 34)
  by_cases h0 : 0 ≤ v
  · by_cases h1 : v < (f.code.length : Int)
    · obtain ⟨g, o, rfl, hr⟩ := hf.row.at (by omega)
      have hh := (hr v.toNat (by omega)).below HB
      have hget := getD_at h0 h1
      obtain ⟨y, hy⟩ : ∃ y, f.code[v.toNat]'(by omega) = y := ⟨_, rfl⟩
      rw [hy] at hh hget
      rw [List.getD_eq_getElem?_getD] at hget
      have q0 := hh.c0
      have hfin : operandB p f x 106 v = (y.op != 51) := by rw [Bool.eq_iff_iff]; simp [operandB, C.len, h0, h1, hget, hy]
      go_enter Tryd.func64, Tryd.ntmps64
      go_wp2
      all_goals
        go_ret
        exact ⟨retb (by first | (rw [hfin]; done) | (rw [hfin, Bool.eq_iff_iff]; simp; done) | (rw [hfin]; simp_all; done)), belowA _ _ _ _⟩
    · have h2 : decide (v < (f.code.length : Int)) = false := by simp; omega
      go_enter Tryd.func64, Tryd.ntmps64
      go_wp2
      all_goals
        go_ret
        exact ⟨retb (by first | (simp_all [operandB, C.len]; done) | (simp_all [operandB, C.len]; omega) | (rw [Bool.eq_iff_iff]; simp [operandB, C.len]; omega) | (rw [Bool.eq_iff_iff]; simp [operandB, C.len]; intros; omega) | (simp [operandB, C.len]; intros; omega) | (rw [Bool.eq_iff_iff]; simp [operandB, C.len]; done)), belowA _ _ _ _⟩
  · have h2 : decide (0 ≤ v) = false := by simp; omega
    go_enter Tryd.func64, Tryd.ntmps64
    go_wp2
    all_goals
      go_ret
      exact ⟨retb (by first | (simp_all [operandB, C.len]; done) | (simp_all [operandB, C.len]; omega) | (rw [Bool.eq_iff_iff]; simp [operandB, C.len]; omega) | (rw [Bool.eq_iff_iff]; simp [operandB, C.len]; intros; omega) | (simp [operandB, C.len]; intros; omega) | (rw [Bool.eq_iff_iff]; simp [operandB, C.len]; done)), belowA _ _ _ _⟩
set_option maxRecDepth 100000 in
set_option maxHeartbeats 4000000 in
theorem op_1 (p : Pg) (A B D : Option Addr) (ca cb cd : Nat) (f : Fc) (Af : Option Addr) (caf : Nat) (x : In) (v : Int) (w : World) (hp : PgAt w p A B D ca cb cd) (hf : FvOk w f Af caf) (bx : i64 x.c) (bv : i64 v) : Calls Tryd.prog 64 #[pv p A B D ca cb cd, fv f Af caf, xv x, .int .u8 49, .int .i64 v] w fun e w' => e = .returned (.bool (operandB p f x 49 v)) ∧ Below w.heap.size w w' := by
  have HB := belowA w (.cells #[.slice A p.funcs.length ca, .slice B p.globals.length cb, .slice D p.layouts.length cd, .int .i64 p.main] 26) (.cells #[.string f.name, .int .i64 f.params, .int .i64 f.regs, .slice Af f.code.length caf] 37) (.cells #[.int .i64 x.op, .int .i64 x.a, .int .i64 x.b, .int .i64 x.c, .int .i64 x.at'] 34)
  by_cases h0 : 0 ≤ v
  · by_cases h1 : v < (p.funcs.length : Int)
    · obtain ⟨g, o, rfl, hr⟩ := hp.fs.at (by omega)
      have hh := (hr v.toNat (by omega)).below HB
      have hget := getD_at h0 h1
      obtain ⟨y, hy⟩ : ∃ y, p.funcs[v.toNat]'(by omega) = y := ⟨_, rfl⟩
      rw [hy] at hh hget
      rw [List.getD_eq_getElem?_getD] at hget
      have q1 := hh.c1
      have hfin : operandB p f x 49 v = (y.params == 1) := by rw [Bool.eq_iff_iff]; simp [operandB, C.len, h0, h1, hget, hy]
      go_enter Tryd.func64, Tryd.ntmps64
      go_wp2
      all_goals
        go_ret
        exact ⟨retb (by first | (rw [hfin]; done) | (rw [hfin, Bool.eq_iff_iff]; simp; done) | (rw [hfin]; simp_all; done)), belowA _ _ _ _⟩
    · have h2 : decide (v < (p.funcs.length : Int)) = false := by simp; omega
      go_enter Tryd.func64, Tryd.ntmps64
      go_wp2
      all_goals
        go_ret
        exact ⟨retb (by first | (simp_all [operandB, C.len]; done) | (simp_all [operandB, C.len]; omega) | (rw [Bool.eq_iff_iff]; simp [operandB, C.len]; omega) | (rw [Bool.eq_iff_iff]; simp [operandB, C.len]; intros; omega) | (simp [operandB, C.len]; intros; omega) | (rw [Bool.eq_iff_iff]; simp [operandB, C.len]; done)), belowA _ _ _ _⟩
  · have h2 : decide (0 ≤ v) = false := by simp; omega
    go_enter Tryd.func64, Tryd.ntmps64
    go_wp2
    all_goals
      go_ret
      exact ⟨retb (by first | (simp_all [operandB, C.len]; done) | (simp_all [operandB, C.len]; omega) | (rw [Bool.eq_iff_iff]; simp [operandB, C.len]; omega) | (rw [Bool.eq_iff_iff]; simp [operandB, C.len]; intros; omega) | (simp [operandB, C.len]; intros; omega) | (rw [Bool.eq_iff_iff]; simp [operandB, C.len]; done)), belowA _ _ _ _⟩
end Go.Proofs.YtekfhgldebhigaaDoor
