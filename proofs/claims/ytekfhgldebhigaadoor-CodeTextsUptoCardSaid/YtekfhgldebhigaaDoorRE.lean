/-
  The walk of the specification's instr.
-/
import Derived.Test.YtekfhgldebhigaaDoorRD
import Derived.Deep.RegionHeld3
set_option linter.all false
namespace Go.Proofs.YtekfhgldebhigaaDoor
open Go.RowKit C
theorem cell_bel {V w' : World} {b o : Nat} {v : Value} (h : V.cell? ⟨b, o, none⟩ = some v) (hb : Below V.heap.size V w') : w'.cell? ⟨b, o, none⟩ = some v := by
  have : b < V.heap.size := World.block_lt_of_cell? V _ h
  rw [bl_cell hb this]; exact h
/-- The boxes of a program, a function, an instruction stand. -/
def BX (p : Pg) (A B D : Option Addr) (ca cb cd : Nat) (f : Fc) (Af : Option Addr) (caf : Nat) (x : In) (w w' : World) : Prop := w'.cell? ⟨w.heap.size, 0, none⟩ = some (.slice A p.funcs.length ca) ∧ w'.cell? ⟨w.heap.size, 1, none⟩ = some (.slice B p.globals.length cb) ∧ w'.cell? ⟨w.heap.size, 2, none⟩ = some (.slice D p.layouts.length cd) ∧ w'.cell? ⟨w.heap.size, 3, none⟩ = some (.int .i64 p.main) ∧ w'.cell? ⟨w.heap.size + 1, 0, none⟩ = some (.string f.name) ∧ w'.cell? ⟨w.heap.size + 1, 1, none⟩ = some (.int .i64 f.params) ∧ w'.cell? ⟨w.heap.size + 1, 2, none⟩ = some (.int .i64 f.regs) ∧ w'.cell? ⟨w.heap.size + 1, 3, none⟩ = some (.slice Af f.code.length caf) ∧ w'.cell? ⟨w.heap.size + 2, 0, none⟩ = some (.int .i64 x.op) ∧ w'.cell? ⟨w.heap.size + 2, 1, none⟩ = some (.int .i64 x.a) ∧ w'.cell? ⟨w.heap.size + 2, 2, none⟩ = some (.int .i64 x.b) ∧ w'.cell? ⟨w.heap.size + 2, 3, none⟩ = some (.int .i64 x.c) ∧ w'.cell? ⟨w.heap.size + 2, 4, none⟩ = some (.int .i64 x.at') ∧ Below w.heap.size w w'
theorem BX.keep {p : Pg} {A B D : Option Addr} {ca cb cd : Nat} {f : Fc} {Af : Option Addr} {caf : Nat} {x : In} {w V w' : World} (h : BX p A B D ca cb cd f Af caf x w V) (hb : Below V.heap.size V w') : w'.cell? ⟨w.heap.size, 0, none⟩ = some (.slice A p.funcs.length ca) ∧ w'.cell? ⟨w.heap.size, 1, none⟩ = some (.slice B p.globals.length cb) ∧ w'.cell? ⟨w.heap.size, 2, none⟩ = some (.slice D p.layouts.length cd) ∧ w'.cell? ⟨w.heap.size, 3, none⟩ = some (.int .i64 p.main) ∧ w'.cell? ⟨w.heap.size + 1, 0, none⟩ = some (.string f.name) ∧ w'.cell? ⟨w.heap.size + 1, 1, none⟩ = some (.int .i64 f.params) ∧ w'.cell? ⟨w.heap.size + 1, 2, none⟩ = some (.int .i64 f.regs) ∧ w'.cell? ⟨w.heap.size + 1, 3, none⟩ = some (.slice Af f.code.length caf) ∧ w'.cell? ⟨w.heap.size + 2, 0, none⟩ = some (.int .i64 x.op) ∧ w'.cell? ⟨w.heap.size + 2, 1, none⟩ = some (.int .i64 x.a) ∧ w'.cell? ⟨w.heap.size + 2, 2, none⟩ = some (.int .i64 x.b) ∧ w'.cell? ⟨w.heap.size + 2, 3, none⟩ = some (.int .i64 x.c) ∧ w'.cell? ⟨w.heap.size + 2, 4, none⟩ = some (.int .i64 x.at') ∧ Below w.heap.size w w' := by
  obtain ⟨y00, y01, y02, y03, y10, y11, y12, y13, y20, y21, y22, y23, y24, b⟩ := h
  exact ⟨cell_bel y00 hb, cell_bel y01 hb, cell_bel y02 hb, cell_bel y03 hb, cell_bel y10 hb, cell_bel y11 hb, cell_bel y12 hb, cell_bel y13 hb, cell_bel y20 hb, cell_bel y21 hb, cell_bel y22 hb, cell_bel y23 hb, cell_bel y24 hb, b.trans (hb.mono b.size)⟩
theorem BX.start {p : Pg} {A B D : Option Addr} {ca cb cd : Nat} {f : Fc} {Af : Option Addr} {caf : Nat} {x : In} {w V : World} (h : BX p A B D ca cb cd f Af caf x w V) : V.drew.cell? ⟨w.heap.size, 0, none⟩ = some (.slice A p.funcs.length ca) ∧ V.drew.cell? ⟨w.heap.size, 1, none⟩ = some (.slice B p.globals.length cb) ∧ V.drew.cell? ⟨w.heap.size, 2, none⟩ = some (.slice D p.layouts.length cd) ∧ V.drew.cell? ⟨w.heap.size, 3, none⟩ = some (.int .i64 p.main) ∧ V.drew.cell? ⟨w.heap.size + 1, 0, none⟩ = some (.string f.name) ∧ V.drew.cell? ⟨w.heap.size + 1, 1, none⟩ = some (.int .i64 f.params) ∧ V.drew.cell? ⟨w.heap.size + 1, 2, none⟩ = some (.int .i64 f.regs) ∧ V.drew.cell? ⟨w.heap.size + 1, 3, none⟩ = some (.slice Af f.code.length caf) ∧ V.drew.cell? ⟨w.heap.size + 2, 0, none⟩ = some (.int .i64 x.op) ∧ V.drew.cell? ⟨w.heap.size + 2, 1, none⟩ = some (.int .i64 x.a) ∧ V.drew.cell? ⟨w.heap.size + 2, 2, none⟩ = some (.int .i64 x.b) ∧ V.drew.cell? ⟨w.heap.size + 2, 3, none⟩ = some (.int .i64 x.c) ∧ V.drew.cell? ⟨w.heap.size + 2, 4, none⟩ = some (.int .i64 x.at') ∧ Below w.heap.size w V.drew := by
  obtain ⟨y00, y01, y02, y03, y10, y11, y12, y13, y20, y21, y22, y23, y24, b⟩ := h
  exact ⟨y00, y01, y02, y03, y10, y11, y12, y13, y20, y21, y22, y23, y24, Below.drew b⟩
theorem BX.new (p : Pg) (A B D : Option Addr) (ca cb cd : Nat) (f : Fc) (Af : Option Addr) (caf : Nat) (x : In) (w : World) : BX p A B D ca cb cd f Af caf x w (((w.alloc (.cells #[.slice A p.funcs.length ca, .slice B p.globals.length cb, .slice D p.layouts.length cd, .int .i64 p.main] 26)).alloc (.cells #[.string f.name, .int .i64 f.params, .int .i64 f.regs, .slice Af f.code.length caf] 37)).alloc (.cells #[.int .i64 x.op, .int .i64 x.a, .int .i64 x.b, .int .i64 x.c, .int .i64 x.at'] 34)) := by
  obtain ⟨o1, h1⟩ : ∃ o : Obj, (.cells #[.slice A p.funcs.length ca, .slice B p.globals.length cb, .slice D p.layouts.length cd, .int .i64 p.main] 26) = o := ⟨_, rfl⟩
  obtain ⟨o2, h2⟩ : ∃ o : Obj, (.cells #[.string f.name, .int .i64 f.params, .int .i64 f.regs, .slice Af f.code.length caf] 37) = o := ⟨_, rfl⟩
  obtain ⟨o3, h3⟩ : ∃ o : Obj, (.cells #[.int .i64 x.op, .int .i64 x.a, .int .i64 x.b, .int .i64 x.c, .int .i64 x.at'] 34) = o := ⟨_, rfl⟩
  rw [h1, h2, h3]
  have b1 : Below (w.alloc o1).heap.size (w.alloc o1) (((w.alloc o1).alloc o2).alloc o3) := ((Below.refl _ _).alloc (Nat.le_refl _) _).alloc (by simp) _
  have e0 := (b1.block w.heap.size (by simp)).trans (heap_alloc_new w o1)
  have b2 : Below ((w.alloc o1).alloc o2).heap.size ((w.alloc o1).alloc o2) (((w.alloc o1).alloc o2).alloc o3) := (Below.refl _ _).alloc (Nat.le_refl _) _
  have e1 := (b2.block (w.alloc o1).heap.size (by simp)).trans (heap_alloc_new (w.alloc o1) o2)
  have e2 := heap_alloc_new ((w.alloc o1).alloc o2) o3
  have hb := belowA w o1 o2 o3
  rw [World.size_alloc] at e1
  rw [World.size_alloc, World.size_alloc] at e2
  generalize (((w.alloc o1).alloc o2).alloc o3) = W at *
  subst h1 h2 h3
  unfold BX
  refine ⟨?_, ?_, ?_, ?_, ?_, ?_, ?_, ?_, ?_, ?_, ?_, ?_, ?_, hb⟩
  all_goals first
    | (simp [World.cell?, e0]; done)
    | (simp [World.cell?, e1]; done)
    | (simp [World.cell?, e2]; done)
set_option maxRecDepth 100000 in
set_option maxHeartbeats 8000000 in
theorem instr_ok (p : Pg) (A B D : Option Addr) (ca cb cd : Nat) (f : Fc) (Af : Option Addr) (caf : Nat) (x : In) (w : World) (hp : PgAt w p A B D ca cb cd) (hf : FvOk w f Af caf) (bx0 : i64 x.op) (bx1 : i64 x.a) (bx2 : i64 x.b) (bx3 : i64 x.c) (bx4 : i64 x.at') (hreg : f.regs ≤ 64) (r0 r1 r2 : UInt8) (hr : roles x.op = [r0, r1, r2]) (h0 : 0 ≤ x.at') (ha : operandB p f x r0 x.a = true) (hb : operandB p f x r1 x.b = true) (hc : operandB p f x r2 x.c = true) : Calls Tryd.prog 49 #[pv p A B D ca cb cd, fv f Af caf, xv x] w fun e w' => e = .returned (.bool (instrB p f x)) ∧ Below w.heap.size w w' := by
  have hok := roles_ok x.op
  rw [hr] at hok
  simp only [List.all_cons, List.all_nil, Bool.and_true, Bool.and_eq_true] at hok
  have HR : Hid (∀ V, Calls Tryd.prog 26 #[.int .i64 x.op] V fun e w' => e = .returned (.string (txt [r0, r1, r2])) ∧ V = w') := Lib.hid fun V => by have := roles_any x.op V; rw [hr] at this; exact this
  have HA : Hid (∀ V, Below w.heap.size w V → Calls Tryd.prog 64 #[pv p A B D ca cb cd, fv f Af caf, xv x, .int .u8 (r0.toNat : Int), .int .i64 x.a] V fun e w' => e = .returned (.bool true) ∧ Below V.heap.size V w') := Lib.hid fun V hV => by have := operand_any p A B D ca cb cd f Af caf x x.a V r0 hok.1 (hp.below hV) (hf.below hV) bx3 bx1; rw [ha] at this; exact this
  have HB : Hid (∀ V, Below w.heap.size w V → Calls Tryd.prog 64 #[pv p A B D ca cb cd, fv f Af caf, xv x, .int .u8 (r1.toNat : Int), .int .i64 x.b] V fun e w' => e = .returned (.bool true) ∧ Below V.heap.size V w') := Lib.hid fun V hV => by have := operand_any p A B D ca cb cd f Af caf x x.b V r1 hok.2.1 (hp.below hV) (hf.below hV) bx3 bx2; rw [hb] at this; exact this
  have HC : Hid (∀ V, Below w.heap.size w V → Calls Tryd.prog 64 #[pv p A B D ca cb cd, fv f Af caf, xv x, .int .u8 (r2.toNat : Int), .int .i64 x.c] V fun e w' => e = .returned (.bool true) ∧ Below V.heap.size V w') := Lib.hid fun V hV => by have := operand_any p A B D ca cb cd f Af caf x x.c V r2 hok.2.2 (hp.below hV) (hf.below hV) bx3 bx3; rw [hc] at this; exact this
  have HF : Hid (instrB p f x = (if x.op = 24 then decide (x.a + x.c < f.regs ∧ x.c < 64) else if x.op = 25 then decide (x.b < 63 ∧ 0 < f.regs) else decide (¬ x.op = 38 ∨ x.c + 1 < f.regs))) := Lib.hid (by unfold instrB; rw [hr]; simp [h0, ha, hb, hc])
  have HN : Hid (BX p A B D ca cb cd f Af caf x w _) := Lib.hid (BX.new p A B D ca cb cd f Af caf x w)
  have H24 : Hid (x.op = 24 → 0 ≤ x.a ∧ x.a < 64 ∧ 0 ≤ x.c ∧ x.c ≤ 64) := Lib.hid fun e => by
    rw [e, show roles 24 = [100, 49, 110] by decide] at hr; simp only [List.cons.injEq] at hr; obtain ⟨rfl, rfl, rfl, _⟩ := hr
    simp [operandB] at ha hc
    omega
  have H38 : Hid (x.op = 38 → 0 ≤ x.c ∧ x.c < 64) := Lib.hid fun e => by
    rw [e, show roles 38 = [100, 114, 114] by decide] at hr; simp only [List.cons.injEq] at hr; obtain ⟨rfl, rfl, rfl, _⟩ := hr
    simp [operandB] at hc
    omega
  obtain ⟨s, hs⟩ : ∃ s, txt [r0, r1, r2] = s := ⟨_, rfl⟩
  have s3 : s.size = 3 := by rw [← hs]; rfl
  have i0 : s[0].toNat = r0.toNat := by subst hs; rfl
  have i1 : s[1].toNat = r1.toNat := by subst hs; rfl
  have i2 : s[2].toNat = r2.toNat := by subst hs; rfl
  have n1 : ¬ s.toList = [] := by rw [ByteArray.toList_eq, ← hs]; simp [txt]
  have n2 : s.toList.isEmpty = false := by simp [n1]
  rw [hs] at HR
  obtain ⟨q0, hq0⟩ : ∃ q, r0.toNat = q := ⟨_, rfl⟩
  obtain ⟨q1, hq1⟩ : ∃ q, r1.toNat = q := ⟨_, rfl⟩
  obtain ⟨q2, hq2⟩ : ∃ q, r2.toNat = q := ⟨_, rfl⟩
  rw [hq0] at HA i0
  rw [hq1] at HB i1
  rw [hq2] at HC i2
  have hat : decide (x.at' < 0) = false := by simp; omega
  have c0 : (0 : Int) < (s.size : Int) := by omega
  have c1 : (1 : Int) < (s.size : Int) := by omega
  have c2 : (2 : Int) < (s.size : Int) := by omega
  clear hs hq0 hq1 hq2 hr ha hb hc hok hp hf h0
  go_enter Tryd.func49, Tryd.ntmps49
  go_wp2_with (go_at_call 26; refine (HR.out _).mono ?_; rintro e w2 ⟨rfl, rfl⟩)
  go_region_held3 (fun w' => w'.cell? ⟨w.heap.size, 0, none⟩ = some (.slice A p.funcs.length ca) ∧ w'.cell? ⟨w.heap.size, 1, none⟩ = some (.slice B p.globals.length cb) ∧ w'.cell? ⟨w.heap.size, 2, none⟩ = some (.slice D p.layouts.length cd) ∧ w'.cell? ⟨w.heap.size, 3, none⟩ = some (.int .i64 p.main) ∧ w'.cell? ⟨w.heap.size + 1, 0, none⟩ = some (.string f.name) ∧ w'.cell? ⟨w.heap.size + 1, 1, none⟩ = some (.int .i64 f.params) ∧ w'.cell? ⟨w.heap.size + 1, 2, none⟩ = some (.int .i64 f.regs) ∧ w'.cell? ⟨w.heap.size + 1, 3, none⟩ = some (.slice Af f.code.length caf) ∧ w'.cell? ⟨w.heap.size + 2, 0, none⟩ = some (.int .i64 x.op) ∧ w'.cell? ⟨w.heap.size + 2, 1, none⟩ = some (.int .i64 x.a) ∧ w'.cell? ⟨w.heap.size + 2, 2, none⟩ = some (.int .i64 x.b) ∧ w'.cell? ⟨w.heap.size + 2, 3, none⟩ = some (.int .i64 x.c) ∧ w'.cell? ⟨w.heap.size + 2, 4, none⟩ = some (.int .i64 x.at') ∧ Below w.heap.size w w')
    (first
      | exact HN.out.start
      | assumption
      | (refine BX.keep (p := p) (A := A) (B := B) (D := D) (ca := ca) (cb := cb) (cd := cd) (f := f) (Af := Af) (caf := caf) (x := x) ?_ hbb; assumption))
    (first
      | (go_at_call 64; (with_reducible refine (HA.out _ ?_).mono ?_); (go_split_ands; assumption); rintro e w' ⟨rfl, hbb⟩)
      | (go_at_call 64; (with_reducible refine (HB.out _ ?_).mono ?_); (go_split_ands; assumption); rintro e w' ⟨rfl, hbb⟩)
      | (go_at_call 64; (with_reducible refine (HC.out _ ?_).mono ?_); (go_split_ands; assumption); rintro e w' ⟨rfl, hbb⟩))
  all_goals
    have HBE : Hid (Below w.heap.size w w') := Lib.hid (by go_split_ands; assumption)
    by_cases c24 : x.op = 24
    · obtain ⟨g1, g2, g3, g4⟩ := H24.out c24
      go_wp2
      all_goals
        go_ret
        exact ⟨retb (by rw [HF.out, if_pos c24, Bool.eq_iff_iff]; simp; omega), HBE.out⟩
    · by_cases c25 : x.op = 25
      · go_wp2
        all_goals
          go_ret
          exact ⟨retb (by rw [HF.out, if_neg c24, if_pos c25, Bool.eq_iff_iff]; simp; omega), HBE.out⟩
      · by_cases c38 : x.op = 38
        · obtain ⟨g1, g2⟩ := H38.out c38
          go_wp2
          all_goals
            go_ret
            exact ⟨retb (by rw [HF.out, if_neg c24, if_neg c25, Bool.eq_iff_iff]; simp; omega), HBE.out⟩
        · go_wp2
          all_goals
            go_ret
            exact ⟨retb (by rw [HF.out, if_neg c24, if_neg c25, Bool.eq_iff_iff]; simp [c38]), HBE.out⟩
end Go.Proofs.YtekfhgldebhigaaDoor
