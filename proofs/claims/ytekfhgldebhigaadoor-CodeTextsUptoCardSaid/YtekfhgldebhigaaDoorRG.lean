/-
  The walk of the specification's instr: A or B wrong (one walk of the text's order, over the worlds in which the boxes stand); instr in one word.
-/
import Derived.Test.YtekfhgldebhigaaDoorRF
set_option linter.all false
namespace Go.Proofs.YtekfhgldebhigaaDoor
open Go.RowKit C
/-- A region that draws its order, walked once, over a class of worlds. -/
theorem wp_region_class {P : Program} {id : Nat} {Q : Exit → Act → World → Prop} {a : Act} {w : World} {l : List Oper} (C : World → Prop) (hm : P.follows .mixedOrders = true) (hB : Region.lexB .any l.toArray = true) (hC : C w.drew)
    (h : wpQuiet P l.toArray C (fun a' => ∀ w', C w' → Q .normal a' w') l a) : (Code.region id l.toArray true).wp P Q a w :=
  wp_region_quiet (C := C) hm hB hC (by simpa using h)
theorem quiet_intro {P : Program} {C : World → Prop} {K : Act → Prop} {o : Oper} {a : Act} (v : Value) (h : ∀ V, C V → o.quietAt P a C V v) (hk : K (a.put o.dst v)) : o.quiet P a C K := ⟨v, h, hk⟩
set_option maxRecDepth 100000 in
set_option maxHeartbeats 8000000 in
theorem instr_a (p : Pg) (A B D : Option Addr) (ca cb cd : Nat) (f : Fc) (Af : Option Addr) (caf : Nat) (x : In) (w : World) (hp : PgAt w p A B D ca cb cd) (hf : FvOk w f Af caf) (bx0 : i64 x.op) (bx1 : i64 x.a) (bx2 : i64 x.b) (bx3 : i64 x.c) (bx4 : i64 x.at') (r0 r1 r2 : UInt8) (hr : roles x.op = [r0, r1, r2]) (h0 : 0 ≤ x.at') (ha : operandB p f x r0 x.a = false) : Calls Tryd.prog 49 #[pv p A B D ca cb cd, fv f Af caf, xv x] w fun e w' => e = .returned (.bool (instrB p f x)) ∧ Below w.heap.size w w' := by
  have hok := roles_ok x.op
  rw [hr] at hok
  simp only [List.all_cons, List.all_nil, Bool.and_true, Bool.and_eq_true] at hok
  have HR : Hid (∀ V, Calls Tryd.prog 26 #[.int .i64 x.op] V fun e w' => e = .returned (.string (txt [r0, r1, r2])) ∧ V = w') := Lib.hid fun V => by have := roles_any x.op V; rw [hr] at this; exact this
  have HA : Hid (∀ V, Below w.heap.size w V → Calls Tryd.prog 64 #[pv p A B D ca cb cd, fv f Af caf, xv x, .int .u8 (r0.toNat : Int), .int .i64 x.a] V fun e w' => e = .returned (.bool false) ∧ Below V.heap.size V w') := Lib.hid fun V hV => by have := operand_any p A B D ca cb cd f Af caf x x.a V r0 hok.1 (hp.below hV) (hf.below hV) bx3 bx1; rw [ha] at this; exact this
  have hfin : instrB p f x = false := by unfold instrB; rw [hr]; simp [ha]
  rw [hfin]
  have HN : Hid (BX p A B D ca cb cd f Af caf x w _) := Lib.hid (BX.new p A B D ca cb cd f Af caf x w)
  obtain ⟨s, hs⟩ : ∃ s, txt [r0, r1, r2] = s := ⟨_, rfl⟩
  have s3 : s.size = 3 := by rw [← hs]; rfl
  have i0 : s[0].toNat = r0.toNat := by subst hs; rfl
  have i1 : s[1].toNat = r1.toNat := by subst hs; rfl
  have i2 : s[2].toNat = r2.toNat := by subst hs; rfl
  have n1 : ¬ s.toList = [] := by rw [ByteArray.toList_eq, ← hs]; simp [txt]
  have n2 : s.toList.isEmpty = false := by simp [n1]
  rw [hs] at HR
  obtain ⟨q0, hq0⟩ : ∃ q, r0.toNat = q := ⟨_, rfl⟩
  rw [hq0] at HA i0
  obtain ⟨q1, hq1⟩ : ∃ q, r1.toNat = q := ⟨_, rfl⟩
  rw [hq1] at i1
  obtain ⟨q2, hq2⟩ : ∃ q, r2.toNat = q := ⟨_, rfl⟩
  rw [hq2] at i2
  have c0 : (0 : Int) < (s.size : Int) := by omega
  have c1 : (1 : Int) < (s.size : Int) := by omega
  have c2 : (2 : Int) < (s.size : Int) := by omega
  have hat : decide (x.at' < 0) = false := by simp; omega
  clear hs hq0 hq1 hq2 hok hp hf hfin
  go_enter Tryd.func49, Tryd.ntmps49
  go_wp2_with (go_at_call 26; refine (HR.out _).mono ?_; rintro e w2 ⟨rfl, rfl⟩)
  refine wp_region_class (BX p A B D ca cb cd f Af caf x w) (by kernel_rfl) (by kernel_rfl) HN.out.start ?_
  go_big_quiet_want
  go_big_quiet_op
  go_big_quiet_on
  go_big_quiet_want
  refine quiet_intro (.bool false) (fun V hV => ?_) ?_
  · obtain ⟨y00, y01, y02, y03, y10, y11, y12, y13, y20, y21, y22, y23, y24, yb⟩ := hV
    go_simp
  try simp only [Act.put, List.setIfInBounds_toArray, List.set_cons_zero, List.set_cons_succ]
  go_big_quiet_on
  go_big_quiet_want
  go_big_quiet_op
  go_big_quiet_on
  go_big_quiet_want
  refine quiet_intro (.pointer (some ⟨w.heap.size + 2, 4, none⟩)) (fun V hV => ?_) ?_
  · obtain ⟨y00, y01, y02, y03, y10, y11, y12, y13, y20, y21, y22, y23, y24, yb⟩ := hV
    go_simp
  try simp only [Act.put, List.setIfInBounds_toArray, List.set_cons_zero, List.set_cons_succ]
  go_big_quiet_on
  go_big_quiet_want
  refine quiet_intro (.int .i64 x.at') (fun V hV => ?_) ?_
  · obtain ⟨y00, y01, y02, y03, y10, y11, y12, y13, y20, y21, y22, y23, y24, yb⟩ := hV
    go_simp
  try simp only [Act.put, List.setIfInBounds_toArray, List.set_cons_zero, List.set_cons_succ]
  go_big_quiet_on
  go_big_quiet_want
  refine quiet_intro (.bool false) (fun V hV => ?_) ?_
  · obtain ⟨y00, y01, y02, y03, y10, y11, y12, y13, y20, y21, y22, y23, y24, yb⟩ := hV
    go_simp
  try simp only [Act.put, List.setIfInBounds_toArray, List.set_cons_zero, List.set_cons_succ]
  go_big_quiet_on
  go_big_quiet_want
  refine quiet_intro (.bool false) (fun V hV => ?_) ?_
  · obtain ⟨y00, y01, y02, y03, y10, y11, y12, y13, y20, y21, y22, y23, y24, yb⟩ := hV
    go_simp
  try simp only [Act.put, List.setIfInBounds_toArray, List.set_cons_zero, List.set_cons_succ]
  go_big_quiet_on
  go_big_quiet_want
  go_big_quiet_op
  go_big_quiet_on
  go_big_quiet_want
  refine quiet_intro (pv p A B D ca cb cd) (fun V hV => ?_) ?_
  · obtain ⟨y00, y01, y02, y03, y10, y11, y12, y13, y20, y21, y22, y23, y24, yb⟩ := hV
    go_simp
  try simp only [Act.put, List.setIfInBounds_toArray, List.set_cons_zero, List.set_cons_succ]
  go_big_quiet_on
  go_big_quiet_want
  refine quiet_intro (fv f Af caf) (fun V hV => ?_) ?_
  · obtain ⟨y00, y01, y02, y03, y10, y11, y12, y13, y20, y21, y22, y23, y24, yb⟩ := hV
    go_simp
  try simp only [Act.put, List.setIfInBounds_toArray, List.set_cons_zero, List.set_cons_succ]
  go_big_quiet_on
  go_big_quiet_want
  refine quiet_intro (xv x) (fun V hV => ?_) ?_
  · obtain ⟨y00, y01, y02, y03, y10, y11, y12, y13, y20, y21, y22, y23, y24, yb⟩ := hV
    go_simp
  try simp only [Act.put, List.setIfInBounds_toArray, List.set_cons_zero, List.set_cons_succ]
  go_big_quiet_on
  go_big_quiet_want
  go_big_quiet_op
  go_big_quiet_on
  go_big_quiet_want
  refine quiet_intro (.int .u8 (q0 : Int)) (fun V hV => ?_) ?_
  · obtain ⟨y00, y01, y02, y03, y10, y11, y12, y13, y20, y21, y22, y23, y24, yb⟩ := hV
    go_simp
  try simp only [Act.put, List.setIfInBounds_toArray, List.set_cons_zero, List.set_cons_succ]
  go_big_quiet_on
  go_big_quiet_want
  refine quiet_intro (.pointer (some ⟨w.heap.size + 2, 1, none⟩)) (fun V hV => ?_) ?_
  · obtain ⟨y00, y01, y02, y03, y10, y11, y12, y13, y20, y21, y22, y23, y24, yb⟩ := hV
    go_simp
  try simp only [Act.put, List.setIfInBounds_toArray, List.set_cons_zero, List.set_cons_succ]
  go_big_quiet_on
  go_big_quiet_want
  refine quiet_intro (.int .i64 x.a) (fun V hV => ?_) ?_
  · obtain ⟨y00, y01, y02, y03, y10, y11, y12, y13, y20, y21, y22, y23, y24, yb⟩ := hV
    go_simp
  try simp only [Act.put, List.setIfInBounds_toArray, List.set_cons_zero, List.set_cons_succ]
  go_big_quiet_on
  go_big_quiet_want
  refine quiet_intro (.bool false) (fun V hV => ?_) ?_
  · obtain ⟨y00, y01, y02, y03, y10, y11, y12, y13, y20, y21, y22, y23, y24, yb⟩ := hV
    go_simp
    refine (HA.out _ yb).mono ?_
    rintro e V' ⟨rfl, hbb⟩
    exact ⟨rfl, BX.keep (p := p) (A := A) (B := B) (D := D) (ca := ca) (cb := cb) (cd := cd) (f := f) (Af := Af) (caf := caf) (x := x) (⟨y00, y01, y02, y03, y10, y11, y12, y13, y20, y21, y22, y23, y24, yb⟩ : BX p A B D ca cb cd f Af caf x w V) hbb⟩
  try simp only [Act.put, List.setIfInBounds_toArray, List.set_cons_zero, List.set_cons_succ]
  go_big_quiet_on
  go_big_quiet_want
  refine quiet_intro (.bool true) (fun V hV => ?_) ?_
  · obtain ⟨y00, y01, y02, y03, y10, y11, y12, y13, y20, y21, y22, y23, y24, yb⟩ := hV
    go_simp
  try simp only [Act.put, List.setIfInBounds_toArray, List.set_cons_zero, List.set_cons_succ]
  go_big_quiet_on
  go_big_quiet_want
  refine quiet_intro (.bool true) (fun V hV => ?_) ?_
  · obtain ⟨y00, y01, y02, y03, y10, y11, y12, y13, y20, y21, y22, y23, y24, yb⟩ := hV
    go_simp
  try simp only [Act.put, List.setIfInBounds_toArray, List.set_cons_zero, List.set_cons_succ]
  go_big_quiet_on
  go_big_quiet_want
  go_big_quiet_op
  go_big_quiet_on
  go_big_quiet_skip
  go_big_quiet_skip
  go_big_quiet_skip
  go_big_quiet_skip
  go_big_quiet_skip
  go_big_quiet_skip
  go_big_quiet_skip
  go_big_quiet_skip
  go_big_quiet_skip
  go_big_quiet_want
  refine quiet_intro (.bool true) (fun V hV => ?_) ?_
  · obtain ⟨y00, y01, y02, y03, y10, y11, y12, y13, y20, y21, y22, y23, y24, yb⟩ := hV
    go_simp
  try simp only [Act.put, List.setIfInBounds_toArray, List.set_cons_zero, List.set_cons_succ]
  go_big_quiet_on
  go_big_quiet_want
  go_big_quiet_op
  go_big_quiet_on
  go_big_quiet_skip
  go_big_quiet_skip
  go_big_quiet_skip
  go_big_quiet_skip
  go_big_quiet_skip
  go_big_quiet_skip
  go_big_quiet_skip
  go_big_quiet_skip
  go_big_quiet_skip
  go_big_quiet_want
  refine quiet_intro (.bool true) (fun V hV => ?_) ?_
  · obtain ⟨y00, y01, y02, y03, y10, y11, y12, y13, y20, y21, y22, y23, y24, yb⟩ := hV
    go_simp
  try simp only [Act.put, List.setIfInBounds_toArray, List.set_cons_zero, List.set_cons_succ]
  go_big_quiet_on
  refine wpQuiet_nil ?_
  intro W hW
  obtain ⟨y00, y01, y02, y03, y10, y11, y12, y13, y20, y21, y22, y23, y24, yb⟩ := hW
  go_wp2
  go_ret
  exact ⟨rfl, yb⟩
set_option maxRecDepth 100000 in
set_option maxHeartbeats 8000000 in
theorem instr_b (p : Pg) (A B D : Option Addr) (ca cb cd : Nat) (f : Fc) (Af : Option Addr) (caf : Nat) (x : In) (w : World) (hp : PgAt w p A B D ca cb cd) (hf : FvOk w f Af caf) (bx0 : i64 x.op) (bx1 : i64 x.a) (bx2 : i64 x.b) (bx3 : i64 x.c) (bx4 : i64 x.at') (r0 r1 r2 : UInt8) (hr : roles x.op = [r0, r1, r2]) (h0 : 0 ≤ x.at') (ha : operandB p f x r0 x.a = true) (hb : operandB p f x r1 x.b = false) : Calls Tryd.prog 49 #[pv p A B D ca cb cd, fv f Af caf, xv x] w fun e w' => e = .returned (.bool (instrB p f x)) ∧ Below w.heap.size w w' := by
  have hok := roles_ok x.op
  rw [hr] at hok
  simp only [List.all_cons, List.all_nil, Bool.and_true, Bool.and_eq_true] at hok
  have HR : Hid (∀ V, Calls Tryd.prog 26 #[.int .i64 x.op] V fun e w' => e = .returned (.string (txt [r0, r1, r2])) ∧ V = w') := Lib.hid fun V => by have := roles_any x.op V; rw [hr] at this; exact this
  have HA : Hid (∀ V, Below w.heap.size w V → Calls Tryd.prog 64 #[pv p A B D ca cb cd, fv f Af caf, xv x, .int .u8 (r0.toNat : Int), .int .i64 x.a] V fun e w' => e = .returned (.bool true) ∧ Below V.heap.size V w') := Lib.hid fun V hV => by have := operand_any p A B D ca cb cd f Af caf x x.a V r0 hok.1 (hp.below hV) (hf.below hV) bx3 bx1; rw [ha] at this; exact this
  have HB : Hid (∀ V, Below w.heap.size w V → Calls Tryd.prog 64 #[pv p A B D ca cb cd, fv f Af caf, xv x, .int .u8 (r1.toNat : Int), .int .i64 x.b] V fun e w' => e = .returned (.bool false) ∧ Below V.heap.size V w') := Lib.hid fun V hV => by have := operand_any p A B D ca cb cd f Af caf x x.b V r1 hok.2.1 (hp.below hV) (hf.below hV) bx3 bx2; rw [hb] at this; exact this
  have hfin : instrB p f x = false := by unfold instrB; rw [hr]; simp [hb]
  rw [hfin]
  have HN : Hid (BX p A B D ca cb cd f Af caf x w _) := Lib.hid (BX.new p A B D ca cb cd f Af caf x w)
  obtain ⟨s, hs⟩ : ∃ s, txt [r0, r1, r2] = s := ⟨_, rfl⟩
  have s3 : s.size = 3 := by rw [← hs]; rfl
  have i0 : s[0].toNat = r0.toNat := by subst hs; rfl
  have i1 : s[1].toNat = r1.toNat := by subst hs; rfl
  have i2 : s[2].toNat = r2.toNat := by subst hs; rfl
  have n1 : ¬ s.toList = [] := by rw [ByteArray.toList_eq, ← hs]; simp [txt]
  have n2 : s.toList.isEmpty = false := by simp [n1]
  rw [hs] at HR
  obtain ⟨q0, hq0⟩ : ∃ q, r0.toNat = q := ⟨_, rfl⟩
  rw [hq0] at HA i0
  obtain ⟨q1, hq1⟩ : ∃ q, r1.toNat = q := ⟨_, rfl⟩
  rw [hq1] at HB i1
  obtain ⟨q2, hq2⟩ : ∃ q, r2.toNat = q := ⟨_, rfl⟩
  rw [hq2] at i2
  have c0 : (0 : Int) < (s.size : Int) := by omega
  have c1 : (1 : Int) < (s.size : Int) := by omega
  have c2 : (2 : Int) < (s.size : Int) := by omega
  have hat : decide (x.at' < 0) = false := by simp; omega
  clear hs hq0 hq1 hq2 hok hp hf hfin
  go_enter Tryd.func49, Tryd.ntmps49
  go_wp2_with (go_at_call 26; refine (HR.out _).mono ?_; rintro e w2 ⟨rfl, rfl⟩)
  refine wp_region_class (BX p A B D ca cb cd f Af caf x w) (by kernel_rfl) (by kernel_rfl) HN.out.start ?_
  go_big_quiet_want
  go_big_quiet_op
  go_big_quiet_on
  go_big_quiet_want
  refine quiet_intro (.bool false) (fun V hV => ?_) ?_
  · obtain ⟨y00, y01, y02, y03, y10, y11, y12, y13, y20, y21, y22, y23, y24, yb⟩ := hV
    go_simp
  try simp only [Act.put, List.setIfInBounds_toArray, List.set_cons_zero, List.set_cons_succ]
  go_big_quiet_on
  go_big_quiet_want
  go_big_quiet_op
  go_big_quiet_on
  go_big_quiet_want
  refine quiet_intro (.pointer (some ⟨w.heap.size + 2, 4, none⟩)) (fun V hV => ?_) ?_
  · obtain ⟨y00, y01, y02, y03, y10, y11, y12, y13, y20, y21, y22, y23, y24, yb⟩ := hV
    go_simp
  try simp only [Act.put, List.setIfInBounds_toArray, List.set_cons_zero, List.set_cons_succ]
  go_big_quiet_on
  go_big_quiet_want
  refine quiet_intro (.int .i64 x.at') (fun V hV => ?_) ?_
  · obtain ⟨y00, y01, y02, y03, y10, y11, y12, y13, y20, y21, y22, y23, y24, yb⟩ := hV
    go_simp
  try simp only [Act.put, List.setIfInBounds_toArray, List.set_cons_zero, List.set_cons_succ]
  go_big_quiet_on
  go_big_quiet_want
  refine quiet_intro (.bool false) (fun V hV => ?_) ?_
  · obtain ⟨y00, y01, y02, y03, y10, y11, y12, y13, y20, y21, y22, y23, y24, yb⟩ := hV
    go_simp
  try simp only [Act.put, List.setIfInBounds_toArray, List.set_cons_zero, List.set_cons_succ]
  go_big_quiet_on
  go_big_quiet_want
  refine quiet_intro (.bool false) (fun V hV => ?_) ?_
  · obtain ⟨y00, y01, y02, y03, y10, y11, y12, y13, y20, y21, y22, y23, y24, yb⟩ := hV
    go_simp
  try simp only [Act.put, List.setIfInBounds_toArray, List.set_cons_zero, List.set_cons_succ]
  go_big_quiet_on
  go_big_quiet_want
  go_big_quiet_op
  go_big_quiet_on
  go_big_quiet_want
  refine quiet_intro (pv p A B D ca cb cd) (fun V hV => ?_) ?_
  · obtain ⟨y00, y01, y02, y03, y10, y11, y12, y13, y20, y21, y22, y23, y24, yb⟩ := hV
    go_simp
  try simp only [Act.put, List.setIfInBounds_toArray, List.set_cons_zero, List.set_cons_succ]
  go_big_quiet_on
  go_big_quiet_want
  refine quiet_intro (fv f Af caf) (fun V hV => ?_) ?_
  · obtain ⟨y00, y01, y02, y03, y10, y11, y12, y13, y20, y21, y22, y23, y24, yb⟩ := hV
    go_simp
  try simp only [Act.put, List.setIfInBounds_toArray, List.set_cons_zero, List.set_cons_succ]
  go_big_quiet_on
  go_big_quiet_want
  refine quiet_intro (xv x) (fun V hV => ?_) ?_
  · obtain ⟨y00, y01, y02, y03, y10, y11, y12, y13, y20, y21, y22, y23, y24, yb⟩ := hV
    go_simp
  try simp only [Act.put, List.setIfInBounds_toArray, List.set_cons_zero, List.set_cons_succ]
  go_big_quiet_on
  go_big_quiet_want
  go_big_quiet_op
  go_big_quiet_on
  go_big_quiet_want
  refine quiet_intro (.int .u8 (q0 : Int)) (fun V hV => ?_) ?_
  · obtain ⟨y00, y01, y02, y03, y10, y11, y12, y13, y20, y21, y22, y23, y24, yb⟩ := hV
    go_simp
  try simp only [Act.put, List.setIfInBounds_toArray, List.set_cons_zero, List.set_cons_succ]
  go_big_quiet_on
  go_big_quiet_want
  refine quiet_intro (.pointer (some ⟨w.heap.size + 2, 1, none⟩)) (fun V hV => ?_) ?_
  · obtain ⟨y00, y01, y02, y03, y10, y11, y12, y13, y20, y21, y22, y23, y24, yb⟩ := hV
    go_simp
  try simp only [Act.put, List.setIfInBounds_toArray, List.set_cons_zero, List.set_cons_succ]
  go_big_quiet_on
  go_big_quiet_want
  refine quiet_intro (.int .i64 x.a) (fun V hV => ?_) ?_
  · obtain ⟨y00, y01, y02, y03, y10, y11, y12, y13, y20, y21, y22, y23, y24, yb⟩ := hV
    go_simp
  try simp only [Act.put, List.setIfInBounds_toArray, List.set_cons_zero, List.set_cons_succ]
  go_big_quiet_on
  go_big_quiet_want
  refine quiet_intro (.bool true) (fun V hV => ?_) ?_
  · obtain ⟨y00, y01, y02, y03, y10, y11, y12, y13, y20, y21, y22, y23, y24, yb⟩ := hV
    go_simp
    refine (HA.out _ yb).mono ?_
    rintro e V' ⟨rfl, hbb⟩
    exact ⟨rfl, BX.keep (p := p) (A := A) (B := B) (D := D) (ca := ca) (cb := cb) (cd := cd) (f := f) (Af := Af) (caf := caf) (x := x) (⟨y00, y01, y02, y03, y10, y11, y12, y13, y20, y21, y22, y23, y24, yb⟩ : BX p A B D ca cb cd f Af caf x w V) hbb⟩
  try simp only [Act.put, List.setIfInBounds_toArray, List.set_cons_zero, List.set_cons_succ]
  go_big_quiet_on
  go_big_quiet_want
  refine quiet_intro (.bool false) (fun V hV => ?_) ?_
  · obtain ⟨y00, y01, y02, y03, y10, y11, y12, y13, y20, y21, y22, y23, y24, yb⟩ := hV
    go_simp
  try simp only [Act.put, List.setIfInBounds_toArray, List.set_cons_zero, List.set_cons_succ]
  go_big_quiet_on
  go_big_quiet_want
  refine quiet_intro (.bool false) (fun V hV => ?_) ?_
  · obtain ⟨y00, y01, y02, y03, y10, y11, y12, y13, y20, y21, y22, y23, y24, yb⟩ := hV
    go_simp
  try simp only [Act.put, List.setIfInBounds_toArray, List.set_cons_zero, List.set_cons_succ]
  go_big_quiet_on
  go_big_quiet_want
  go_big_quiet_op
  go_big_quiet_on
  go_big_quiet_want
  refine quiet_intro (pv p A B D ca cb cd) (fun V hV => ?_) ?_
  · obtain ⟨y00, y01, y02, y03, y10, y11, y12, y13, y20, y21, y22, y23, y24, yb⟩ := hV
    go_simp
  try simp only [Act.put, List.setIfInBounds_toArray, List.set_cons_zero, List.set_cons_succ]
  go_big_quiet_on
  go_big_quiet_want
  refine quiet_intro (fv f Af caf) (fun V hV => ?_) ?_
  · obtain ⟨y00, y01, y02, y03, y10, y11, y12, y13, y20, y21, y22, y23, y24, yb⟩ := hV
    go_simp
  try simp only [Act.put, List.setIfInBounds_toArray, List.set_cons_zero, List.set_cons_succ]
  go_big_quiet_on
  go_big_quiet_want
  refine quiet_intro (xv x) (fun V hV => ?_) ?_
  · obtain ⟨y00, y01, y02, y03, y10, y11, y12, y13, y20, y21, y22, y23, y24, yb⟩ := hV
    go_simp
  try simp only [Act.put, List.setIfInBounds_toArray, List.set_cons_zero, List.set_cons_succ]
  go_big_quiet_on
  go_big_quiet_want
  go_big_quiet_op
  go_big_quiet_on
  go_big_quiet_want
  refine quiet_intro (.int .u8 (q1 : Int)) (fun V hV => ?_) ?_
  · obtain ⟨y00, y01, y02, y03, y10, y11, y12, y13, y20, y21, y22, y23, y24, yb⟩ := hV
    go_simp
  try simp only [Act.put, List.setIfInBounds_toArray, List.set_cons_zero, List.set_cons_succ]
  go_big_quiet_on
  go_big_quiet_want
  refine quiet_intro (.pointer (some ⟨w.heap.size + 2, 2, none⟩)) (fun V hV => ?_) ?_
  · obtain ⟨y00, y01, y02, y03, y10, y11, y12, y13, y20, y21, y22, y23, y24, yb⟩ := hV
    go_simp
  try simp only [Act.put, List.setIfInBounds_toArray, List.set_cons_zero, List.set_cons_succ]
  go_big_quiet_on
  go_big_quiet_want
  refine quiet_intro (.int .i64 x.b) (fun V hV => ?_) ?_
  · obtain ⟨y00, y01, y02, y03, y10, y11, y12, y13, y20, y21, y22, y23, y24, yb⟩ := hV
    go_simp
  try simp only [Act.put, List.setIfInBounds_toArray, List.set_cons_zero, List.set_cons_succ]
  go_big_quiet_on
  go_big_quiet_want
  refine quiet_intro (.bool false) (fun V hV => ?_) ?_
  · obtain ⟨y00, y01, y02, y03, y10, y11, y12, y13, y20, y21, y22, y23, y24, yb⟩ := hV
    go_simp
    refine (HB.out _ yb).mono ?_
    rintro e V' ⟨rfl, hbb⟩
    exact ⟨rfl, BX.keep (p := p) (A := A) (B := B) (D := D) (ca := ca) (cb := cb) (cd := cd) (f := f) (Af := Af) (caf := caf) (x := x) (⟨y00, y01, y02, y03, y10, y11, y12, y13, y20, y21, y22, y23, y24, yb⟩ : BX p A B D ca cb cd f Af caf x w V) hbb⟩
  try simp only [Act.put, List.setIfInBounds_toArray, List.set_cons_zero, List.set_cons_succ]
  go_big_quiet_on
  go_big_quiet_want
  refine quiet_intro (.bool true) (fun V hV => ?_) ?_
  · obtain ⟨y00, y01, y02, y03, y10, y11, y12, y13, y20, y21, y22, y23, y24, yb⟩ := hV
    go_simp
  try simp only [Act.put, List.setIfInBounds_toArray, List.set_cons_zero, List.set_cons_succ]
  go_big_quiet_on
  go_big_quiet_want
  refine quiet_intro (.bool true) (fun V hV => ?_) ?_
  · obtain ⟨y00, y01, y02, y03, y10, y11, y12, y13, y20, y21, y22, y23, y24, yb⟩ := hV
    go_simp
  try simp only [Act.put, List.setIfInBounds_toArray, List.set_cons_zero, List.set_cons_succ]
  go_big_quiet_on
  go_big_quiet_want
  go_big_quiet_op
  go_big_quiet_on
  go_big_quiet_skip
  go_big_quiet_skip
  go_big_quiet_skip
  go_big_quiet_skip
  go_big_quiet_skip
  go_big_quiet_skip
  go_big_quiet_skip
  go_big_quiet_skip
  go_big_quiet_skip
  go_big_quiet_want
  refine quiet_intro (.bool true) (fun V hV => ?_) ?_
  · obtain ⟨y00, y01, y02, y03, y10, y11, y12, y13, y20, y21, y22, y23, y24, yb⟩ := hV
    go_simp
  try simp only [Act.put, List.setIfInBounds_toArray, List.set_cons_zero, List.set_cons_succ]
  go_big_quiet_on
  refine wpQuiet_nil ?_
  intro W hW
  obtain ⟨y00, y01, y02, y03, y10, y11, y12, y13, y20, y21, y22, y23, y24, yb⟩ := hW
  go_wp2
  go_ret
  exact ⟨rfl, yb⟩
theorem instr_any (p : Pg) (A B D : Option Addr) (ca cb cd : Nat) (f : Fc) (Af : Option Addr) (caf : Nat) (x : In) (w : World) (hp : PgAt w p A B D ca cb cd) (hf : FvOk w f Af caf) (bx0 : i64 x.op) (bx1 : i64 x.a) (bx2 : i64 x.b) (bx3 : i64 x.c) (bx4 : i64 x.at') (hreg : f.regs ≤ 64) : Calls Tryd.prog 49 #[pv p A B D ca cb cd, fv f Af caf, xv x] w fun e w' => e = .returned (.bool (instrB p f x)) ∧ Below w.heap.size w w' := by
  rcases roles_three x.op with h3 | h3
  · obtain ⟨r0, r1, r2, hr⟩ : ∃ r0 r1 r2, roles x.op = [r0, r1, r2] := by
      match h : roles x.op, h3 with
      | [a, b, c], _ => exact ⟨a, b, c, rfl⟩
    by_cases h0 : 0 ≤ x.at'
    · cases ha : operandB p f x r0 x.a with
      | false => exact instr_a p A B D ca cb cd f Af caf x w hp hf bx0 bx1 bx2 bx3 bx4 r0 r1 r2 hr h0 ha
      | true =>
        cases hb : operandB p f x r1 x.b with
        | false => exact instr_b p A B D ca cb cd f Af caf x w hp hf bx0 bx1 bx2 bx3 bx4 r0 r1 r2 hr h0 ha hb
        | true =>
          cases hc : operandB p f x r2 x.c with
          | false => exact instr_c p A B D ca cb cd f Af caf x w hp hf bx0 bx1 bx2 bx3 bx4 r0 r1 r2 hr h0 ha hb hc
          | true => exact instr_ok p A B D ca cb cd f Af caf x w hp hf bx0 bx1 bx2 bx3 bx4 hreg r0 r1 r2 hr h0 ha hb hc
    · exact instr_at p A B D ca cb cd f Af caf x w hp hf bx0 bx1 bx2 bx3 bx4 r0 r1 r2 hr (by omega)
  · exact instr_nil p A B D ca cb cd f Af caf x w h3
end Go.Proofs.YtekfhgldebhigaaDoor
