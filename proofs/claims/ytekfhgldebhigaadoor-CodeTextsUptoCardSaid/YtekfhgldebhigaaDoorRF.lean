/-
  The walk of the specification's instr: what is not permitted; instr in one word.
-/
import Derived.Test.YtekfhgldebhigaaDoorRE
set_option linter.all false
namespace Go.Proofs.YtekfhgldebhigaaDoor
open Go.RowKit C
set_option maxRecDepth 100000 in
set_option maxHeartbeats 8000000 in
theorem instr_nil (p : Pg) (A B D : Option Addr) (ca cb cd : Nat) (f : Fc) (Af : Option Addr) (caf : Nat) (x : In) (w : World) (hr : roles x.op = []) : Calls Tryd.prog 49 #[pv p A B D ca cb cd, fv f Af caf, xv x] w fun e w' => e = .returned (.bool (instrB p f x)) ∧ Below w.heap.size w w' := by
  have HR : Hid (∀ V, Calls Tryd.prog 26 #[.int .i64 x.op] V fun e w' => e = .returned (.string ⟨#[]⟩) ∧ V = w') := Lib.hid fun V => by have := roles_any x.op V; rw [hr] at this; exact this
  have hfin : instrB p f x = false := by unfold instrB; rw [hr]
  rw [hfin]
  have HN : Hid (BX p A B D ca cb cd f Af caf x w _) := Lib.hid (BX.new p A B D ca cb cd f Af caf x w)
  go_enter Tryd.func49, Tryd.ntmps49
  go_wp2_with (go_at_call 26; refine (HR.out _).mono ?_; rintro e w2 ⟨rfl, rfl⟩)
  go_quiet (fail)
  all_goals
    go_wp2
    go_ret
    exact ⟨rfl, bel_drewN (belowA _ _ _ _) _⟩
set_option maxRecDepth 100000 in
set_option maxHeartbeats 8000000 in
theorem instr_at (p : Pg) (A B D : Option Addr) (ca cb cd : Nat) (f : Fc) (Af : Option Addr) (caf : Nat) (x : In) (w : World) (hp : PgAt w p A B D ca cb cd) (hf : FvOk w f Af caf) (bx0 : i64 x.op) (bx1 : i64 x.a) (bx2 : i64 x.b) (bx3 : i64 x.c) (bx4 : i64 x.at') (r0 r1 r2 : UInt8) (hr : roles x.op = [r0, r1, r2]) (h0 : x.at' < 0) : Calls Tryd.prog 49 #[pv p A B D ca cb cd, fv f Af caf, xv x] w fun e w' => e = .returned (.bool (instrB p f x)) ∧ Below w.heap.size w w' := by
  have hok := roles_ok x.op
  rw [hr] at hok
  simp only [List.all_cons, List.all_nil, Bool.and_true, Bool.and_eq_true] at hok
  have HR : Hid (∀ V, Calls Tryd.prog 26 #[.int .i64 x.op] V fun e w' => e = .returned (.string (txt [r0, r1, r2])) ∧ V = w') := Lib.hid fun V => by have := roles_any x.op V; rw [hr] at this; exact this
  have hfin : instrB p f x = false := by unfold instrB; rw [hr]; simp [h0, show ¬ (0 ≤ x.at') by omega]
  rw [hfin]
  have HN : Hid (BX p A B D ca cb cd f Af caf x w _) := Lib.hid (BX.new p A B D ca cb cd f Af caf x w)
  obtain ⟨s, hs⟩ : ∃ s, txt [r0, r1, r2] = s := ⟨_, rfl⟩
  have s3 : s.size = 3 := by rw [← hs]; rfl
  have i0 : s[0].toNat = r0.toNat := by subst hs; rfl
  have i1 : s[1].toNat = r1.toNat := by subst hs; rfl
  have i2 : s[2].toNat = r2.toNat := by subst hs; rfl
  have n1 : ¬ s.toList = [] := by rw [ByteArray.toList_eq, ← hs]; simp [txt]
  have n2 : s.toList.isEmpty = false := by simp [n1]
  rw [hs] at HR
  obtain ⟨q0, hq0⟩ : ∃ q, r0.toNat = q := ⟨_, rfl⟩
  rw [hq0] at i0
  obtain ⟨q1, hq1⟩ : ∃ q, r1.toNat = q := ⟨_, rfl⟩
  rw [hq1] at i1
  obtain ⟨q2, hq2⟩ : ∃ q, r2.toNat = q := ⟨_, rfl⟩
  rw [hq2] at i2
  have c0 : (0 : Int) < (s.size : Int) := by omega
  have c1 : (1 : Int) < (s.size : Int) := by omega
  have c2 : (2 : Int) < (s.size : Int) := by omega
  have hat : decide (x.at' < 0) = true := by simp; omega
  clear hs hq0 hq1 hq2 hok hp hf hfin
  go_enter Tryd.func49, Tryd.ntmps49
  go_wp2_with (go_at_call 26; refine (HR.out _).mono ?_; rintro e w2 ⟨rfl, rfl⟩)
  go_quiet (fail)
  all_goals
    go_wp2
    go_ret
    exact ⟨rfl, bel_drewN (belowA _ _ _ _) _⟩
set_option maxRecDepth 100000 in
set_option maxHeartbeats 8000000 in
theorem instr_c (p : Pg) (A B D : Option Addr) (ca cb cd : Nat) (f : Fc) (Af : Option Addr) (caf : Nat) (x : In) (w : World) (hp : PgAt w p A B D ca cb cd) (hf : FvOk w f Af caf) (bx0 : i64 x.op) (bx1 : i64 x.a) (bx2 : i64 x.b) (bx3 : i64 x.c) (bx4 : i64 x.at') (r0 r1 r2 : UInt8) (hr : roles x.op = [r0, r1, r2]) (h0 : 0 ≤ x.at') (ha : operandB p f x r0 x.a = true) (hb : operandB p f x r1 x.b = true) (hc : operandB p f x r2 x.c = false) : Calls Tryd.prog 49 #[pv p A B D ca cb cd, fv f Af caf, xv x] w fun e w' => e = .returned (.bool (instrB p f x)) ∧ Below w.heap.size w w' := by
  have hok := roles_ok x.op
  rw [hr] at hok
  simp only [List.all_cons, List.all_nil, Bool.and_true, Bool.and_eq_true] at hok
  have HR : Hid (∀ V, Calls Tryd.prog 26 #[.int .i64 x.op] V fun e w' => e = .returned (.string (txt [r0, r1, r2])) ∧ V = w') := Lib.hid fun V => by have := roles_any x.op V; rw [hr] at this; exact this
  have HA : Hid (∀ V, Below w.heap.size w V → Calls Tryd.prog 64 #[pv p A B D ca cb cd, fv f Af caf, xv x, .int .u8 (r0.toNat : Int), .int .i64 x.a] V fun e w' => e = .returned (.bool true) ∧ Below V.heap.size V w') := Lib.hid fun V hV => by have := operand_any p A B D ca cb cd f Af caf x x.a V r0 hok.1 (hp.below hV) (hf.below hV) bx3 bx1; rw [ha] at this; exact this
  have HB : Hid (∀ V, Below w.heap.size w V → Calls Tryd.prog 64 #[pv p A B D ca cb cd, fv f Af caf, xv x, .int .u8 (r1.toNat : Int), .int .i64 x.b] V fun e w' => e = .returned (.bool true) ∧ Below V.heap.size V w') := Lib.hid fun V hV => by have := operand_any p A B D ca cb cd f Af caf x x.b V r1 hok.2.1 (hp.below hV) (hf.below hV) bx3 bx2; rw [hb] at this; exact this
  have HC : Hid (∀ V, Below w.heap.size w V → Calls Tryd.prog 64 #[pv p A B D ca cb cd, fv f Af caf, xv x, .int .u8 (r2.toNat : Int), .int .i64 x.c] V fun e w' => e = .returned (.bool false) ∧ Below V.heap.size V w') := Lib.hid fun V hV => by have := operand_any p A B D ca cb cd f Af caf x x.c V r2 hok.2.2 (hp.below hV) (hf.below hV) bx3 bx3; rw [hc] at this; exact this
  have hfin : instrB p f x = false := by unfold instrB; rw [hr]; simp [hc]
  rw [hfin]
  have HN : Hid (BX p A B D ca cb cd f Af caf x w _) := Lib.hid (BX.new p A B D ca cb cd f Af caf x w)
  obtain ⟨s, hs⟩ : ∃ s, txt [r0, r1, r2] = s := ⟨_, rfl⟩
  have s3 : s.size = 3 := by rw [← hs]; rfl
  have i0 : s[0].toNat = r0.toNat := by subst hs; rfl
  have i1 : s[1].toNat = r1.toNat := by subst hs; rfl
  have i2 : s[2].toNat = r2.toNat := by subst hs; rfl
  have n1 : ¬ s.toList = [] := by rw [ByteArray.toList_eq, ← hs]; simp [txt]
  have n2 : s.toList.isEmpty = false := by simp [n1]
  rw [hs] at HR
  obtain ⟨q0, hq0⟩ : ∃ q, r0.toNat = q := ⟨_, rfl⟩
  rw [hq0] at HA i0
  obtain ⟨q1, hq1⟩ : ∃ q, r1.toNat = q := ⟨_, rfl⟩
  rw [hq1] at HB i1
  obtain ⟨q2, hq2⟩ : ∃ q, r2.toNat = q := ⟨_, rfl⟩
  rw [hq2] at HC i2
  have c0 : (0 : Int) < (s.size : Int) := by omega
  have c1 : (1 : Int) < (s.size : Int) := by omega
  have c2 : (2 : Int) < (s.size : Int) := by omega
  have hat : decide (x.at' < 0) = false := by simp; omega
  clear hs hq0 hq1 hq2 hok hp hf hfin
  go_enter Tryd.func49, Tryd.ntmps49
  go_wp2_with (go_at_call 26; refine (HR.out _).mono ?_; rintro e w2 ⟨rfl, rfl⟩)
  go_region_held3 (fun w' => w'.cell? ⟨w.heap.size, 0, none⟩ = some (.slice A p.funcs.length ca) ∧ w'.cell? ⟨w.heap.size, 1, none⟩ = some (.slice B p.globals.length cb) ∧ w'.cell? ⟨w.heap.size, 2, none⟩ = some (.slice D p.layouts.length cd) ∧ w'.cell? ⟨w.heap.size, 3, none⟩ = some (.int .i64 p.main) ∧ w'.cell? ⟨w.heap.size + 1, 0, none⟩ = some (.string f.name) ∧ w'.cell? ⟨w.heap.size + 1, 1, none⟩ = some (.int .i64 f.params) ∧ w'.cell? ⟨w.heap.size + 1, 2, none⟩ = some (.int .i64 f.regs) ∧ w'.cell? ⟨w.heap.size + 1, 3, none⟩ = some (.slice Af f.code.length caf) ∧ w'.cell? ⟨w.heap.size + 2, 0, none⟩ = some (.int .i64 x.op) ∧ w'.cell? ⟨w.heap.size + 2, 1, none⟩ = some (.int .i64 x.a) ∧ w'.cell? ⟨w.heap.size + 2, 2, none⟩ = some (.int .i64 x.b) ∧ w'.cell? ⟨w.heap.size + 2, 3, none⟩ = some (.int .i64 x.c) ∧ w'.cell? ⟨w.heap.size + 2, 4, none⟩ = some (.int .i64 x.at') ∧ Below w.heap.size w w')
    (first
      | exact HN.out.start
      | assumption
      | (refine BX.keep (p := p) (A := A) (B := B) (D := D) (ca := ca) (cb := cb) (cd := cd) (f := f) (Af := Af) (caf := caf) (x := x) ?_ hbb; assumption))
    (first 
      | (go_at_call 64; (with_reducible refine (HA.out _ ?_).mono ?_); (go_split_ands; assumption); rintro e w' ⟨rfl, hbb⟩) 
      | (go_at_call 64; (with_reducible refine (HB.out _ ?_).mono ?_); (go_split_ands; assumption); rintro e w' ⟨rfl, hbb⟩) 
      | (go_at_call 64; (with_reducible refine (HC.out _ ?_).mono ?_); (go_split_ands; assumption); rintro e w' ⟨rfl, hbb⟩))
  all_goals
    have HBE : Hid (Below w.heap.size w w') := Lib.hid (by go_split_ands; assumption)
    go_wp2
    go_ret
    exact ⟨rfl, HBE.out⟩
end Go.Proofs.YtekfhgldebhigaaDoor
