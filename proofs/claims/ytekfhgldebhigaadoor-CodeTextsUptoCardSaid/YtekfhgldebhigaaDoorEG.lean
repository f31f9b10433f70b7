/-
  The walks of slices.EqualFunc and of the program's Equal.
-/
import Derived.Test.YtekfhgldebhigaaDoorEF
set_option linter.all false
namespace Go.Proofs.YtekfhgldebhigaaDoor
open Go.RowKit C
set_option maxRecDepth 100000 in
set_option maxHeartbeats 2000000 in
theorem eqLay_any (A B : Option Addr) (ca cb : Nat) (l m : List Int) (w : World) (hl : l.length ≤ maxLen) (hm : m.length ≤ maxLen) (h1 : Row 1 (IntAt w) A l) (h2 : Row 1 (IntAt w) B m) :
    Calls Tryd.prog 44 #[.slice A l.length ca, .slice B m.length cb] w fun e w' => e = .returned (.bool (decide (l = m))) ∧ Below w.heap.size w w' := by
  have HC := Lib.hid (eqInt_any A B ca cb l m w hl hm h1 h2)
  obtain ⟨b, hb⟩ : ∃ b, decide (l = m) = b := ⟨_, rfl⟩
  rw [hb] at HC
  rw [hb]
  clear h1 h2
  go_enter Tryd.func44, Tryd.ntmps44
  go_wp2_with fail
  refine HC.out.mono ?_
  rintro e w3 ⟨rfl, hw3⟩
  go_wp2
  go_ret
  exact ⟨rfl, hw3⟩
set_option maxRecDepth 100000 in
set_option maxHeartbeats 4000000 in
theorem eqFn_any (f g : Fc) (A B : Option Addr) (ca cb : Nat) (w : World) (hf : FvOk w f A ca) (hg : FvOk w g B cb) :
    Calls Tryd.prog 42 #[fv f A ca, fv g B cb] w fun e w' => e = .returned (.bool (decide (f = g))) ∧ Below w.heap.size w w' := by
  have HC : Hid (∀ V, Below w.heap.size w V → Calls Tryd.prog 43 #[.slice A f.code.length ca, .slice B g.code.length cb] V fun e w' => e = .returned (.bool (decide (f.code = g.code))) ∧ Below V.heap.size V w') := Lib.hid fun V hV =>
    eqIn_any A B ca cb f.code g.code V hf.k.2 hg.k.2 (hf.below hV).row (hg.below hV).row
  clear hf hg
  by_cases h0 : f.name = g.name
  · have e0 : (f.name.toList == g.name.toList) = true := by simp [h0]
    by_cases h1 : f.params = g.params
    · have e1 : ((f.params : Int) == g.params) = true := by simp [h1]
      by_cases h2 : f.regs = g.regs
      · have e2 : ((f.regs : Int) == g.regs) = true := by simp [h2]
        have HE : Hid (decide (f = g) = decide (f.code = g.code)) := Lib.hid (by rw [Bool.eq_iff_iff]; simp only [decide_eq_true_eq]; exact ⟨fun e => by rw [e], fun e => by cases f; cases g; simp_all⟩)
        obtain ⟨b, hb⟩ : ∃ b, decide (f.code = g.code) = b := ⟨_, rfl⟩
        rw [hb] at HC HE
        clear h0 h1 h2 hb
        go_enter Tryd.func42, Tryd.ntmps42
        go_wp2_with fail
        refine (HC.out _ (below2 _ _ _)).mono ?_
        rintro e w3 ⟨rfl, hw3⟩
        go_wp2
        go_ret
        exact ⟨retb HE.out.symm, (below2 _ _ _).trans (hw3.mono (by simp; omega))⟩
      · have e2 : ((f.regs : Int) == g.regs) = false := by simp [h2]
        have HE : Hid (decide (f = g) = false) := Lib.hid (decide_eq_false (fun e => h2 (by rw [e])))
        clear h0 h1 h2
        go_enter Tryd.func42, Tryd.ntmps42
        go_wp2
        go_ret
        exact ⟨retb HE.out.symm, below2 _ _ _⟩
    · have e1 : ((f.params : Int) == g.params) = false := by simp [h1]
      have HE : Hid (decide (f = g) = false) := Lib.hid (decide_eq_false (fun e => h1 (by rw [e])))
      clear h0 h1
      go_enter Tryd.func42, Tryd.ntmps42
      go_wp2
      go_ret
      exact ⟨retb HE.out.symm, below2 _ _ _⟩
  · have g0 : ¬ f.name.toList = g.name.toList := fun e => h0 (toList_inj e)
    have e0 : (f.name.toList == g.name.toList) = false := by simpa using g0
    have HE : Hid (decide (f = g) = false) := Lib.hid (decide_eq_false (fun e => h0 (by rw [e])))
    clear h0
    go_enter Tryd.func42, Tryd.ntmps42
    go_wp2
    go_ret
    exact ⟨retb HE.out.symm, below2 _ _ _⟩
set_option maxRecDepth 100000 in
set_option maxHeartbeats 4000000 in
theorem efLay_any (A B : Option Addr) (ca cb : Nat) (l m : List (List Int)) (w : World) (hl : l.length ≤ maxLen) (hm : m.length ≤ maxLen) (h1 : Row 1 (LyAt w) A l) (h2 : Row 1 (LyAt w) B m) :
    Calls Tryd.prog 47 #[.slice A l.length ca, .slice B m.length cb, .func (.func 44) #[] #[]] w fun e w' => e = .returned (.bool (decide (l = m))) ∧ Below w.heap.size w w' := by
  have HA := Lib.hid h1
  have HB := Lib.hid h2
  unfold maxLen at hl hm
  clear h1 h2
  by_cases hne : l.length = m.length
  · have hne2 : ((l.length : Int) != (m.length : Int)) = false := by simp; omega
    have HNE := Lib.hid hne
    clear hne
    go_enter Tryd.func47, Tryd.ntmps47
    go_wp2
    go_loopw [17] (fun i wr => ∃ k : Nat, k ≤ l.length ∧ i = .int .i64 k ∧ Hid (l.take k = m.take k) ∧ Hid (Below w.heap.size w wr)) (fun i _ => l.length - (intOf i).toNat)
    case atStart => exact ⟨0, Nat.zero_le _, rfl, Lib.hid rfl, Lib.hid (Below.refl _ _)⟩
    case round =>
      obtain ⟨k, hk, rfl, he, hd⟩ := hrel
      by_cases hkl : k < l.length
      · have hkm : k < m.length := by have := HNE.out; omega
        obtain ⟨g, o, rfl, hA⟩ := HA.out.at (by omega)
        obtain ⟨g', o', rfl, hB⟩ := HB.out.at (by omega)
        have hx := (hA k hkl).below hd.out
        have hy := (hB k hkm).below hd.out
        obtain ⟨x, hxe⟩ : ∃ x, l[k] = x := ⟨_, rfl⟩
        obtain ⟨y, hye⟩ : ∃ y, m[k] = y := ⟨_, rfl⟩
        rw [hxe, Nat.mul_one] at hx
        rw [hye, Nat.mul_one] at hy
        obtain ⟨AX, cX, q0, _, mX, rX⟩ := hx.row
        obtain ⟨AY, cY, r0, _, mY, rY⟩ := hy.row
        have HC : Hid (∀ V, Below wr.heap.size wr V → Calls Tryd.prog 44 #[.slice AX x.length cX, .slice AY y.length cY] V fun e w' => e = .returned (.bool (decide (x = y))) ∧ Below V.heap.size V w') := Lib.hid fun V hV =>
          eqLay_any AX AY cX cY x y V mX mY (rX.imp fun x g o q => q.below hV) (rY.imp fun x g o q => q.below hV)
        clear mX mY rX rY
        have HX := Lib.hid hxe
        have HY := Lib.hid hye
        have kk0 : (0 : Int) ≤ (k : Int) := by omega
        have kk1 : (k : Int) < (l.length : Int) := by omega
        have kk2 : (k : Int) < (m.length : Int) := by omega
        clear hx hy hxe hye hA hB
        by_cases hxy : x = y
        · have hd1 : decide (x = y) = true := decide_eq_true hxy
          rw [hd1] at HC
          have HE : Hid (l.take (k + 1) = m.take (k + 1)) := Lib.hid (take_eq hkl hkm he.out (by rw [HX.out, HY.out]; exact hxy))
          clear hxy hd1
          go_wp2_with fail
          refine (HC.out _ (Below.refl _ _)).mono ?_
          rintro e w3 ⟨rfl, hw3⟩
          go_wp2
          go_roundw
          case rel => exact ⟨k + 1, by omega, by go_num, HE, Lib.hid ((hd.out).trans (hw3.mono (hd.out).size))⟩
          case measure => simp [intOf]; omega
        · have hd1 : decide (x = y) = false := decide_eq_false hxy
          rw [hd1] at HC
          have HE : Hid (decide (l = m) = false) := Lib.hid (decide_eq_false (ne_at hkl hkm (by rw [HX.out, HY.out]; exact hxy)))
          clear hxy hd1
          go_wp2_with fail
          refine (HC.out _ (Below.refl _ _)).mono ?_
          rintro e w3 ⟨rfl, hw3⟩
          go_wp2
          go_ret
          exact ⟨retb HE.out.symm, (hd.out).trans (hw3.mono (hd.out).size)⟩
      · obtain rfl : k = l.length := by omega
        have HE : Hid (decide (l = m) = true) := Lib.hid (decide_eq_true (take_all HNE.out he.out))
        go_wp2
        go_ret
        exact ⟨retb HE.out.symm, hd.out⟩
  · have hne2 : ((l.length : Int) != (m.length : Int)) = true := by simp; omega
    have HE : Hid (decide (l = m) = false) := Lib.hid (decide_eq_false fun e => hne (by rw [e]))
    go_enter Tryd.func47, Tryd.ntmps47
    go_wp2
    go_ret
    exact ⟨retb HE.out.symm, Below.refl _ _⟩
set_option maxRecDepth 100000 in
set_option maxHeartbeats 4000000 in
theorem efFn_any (A B : Option Addr) (ca cb : Nat) (l m : List Fc) (w : World) (hl : l.length ≤ maxLen) (hm : m.length ≤ maxLen) (h1 : Row 4 (FnAt w) A l) (h2 : Row 4 (FnAt w) B m) :
    Calls Tryd.prog 48 #[.slice A l.length ca, .slice B m.length cb, .func (.func 42) #[] #[]] w fun e w' => e = .returned (.bool (decide (l = m))) ∧ Below w.heap.size w w' := by
  have HA := Lib.hid h1
  have HB := Lib.hid h2
  unfold maxLen at hl hm
  clear h1 h2
  by_cases hne : l.length = m.length
  · have hne2 : ((l.length : Int) != (m.length : Int)) = false := by simp; omega
    have HNE := Lib.hid hne
    clear hne
    go_enter Tryd.func48, Tryd.ntmps48
    go_wp2
    go_loopw [17] (fun i wr => ∃ k : Nat, k ≤ l.length ∧ i = .int .i64 k ∧ Hid (l.take k = m.take k) ∧ Hid (Below w.heap.size w wr)) (fun i _ => l.length - (intOf i).toNat)
    case atStart => exact ⟨0, Nat.zero_le _, rfl, Lib.hid rfl, Lib.hid (Below.refl _ _)⟩
    case round =>
      obtain ⟨k, hk, rfl, he, hd⟩ := hrel
      by_cases hkl : k < l.length
      · have hkm : k < m.length := by have := HNE.out; omega
        obtain ⟨g, o, rfl, hA⟩ := HA.out.at (by omega)
        obtain ⟨g', o', rfl, hB⟩ := HB.out.at (by omega)
        have hx := (hA k hkl).below hd.out
        have hy := (hB k hkm).below hd.out
        obtain ⟨x, hxe⟩ : ∃ x, l[k] = x := ⟨_, rfl⟩
        obtain ⟨y, hye⟩ : ∃ y, m[k] = y := ⟨_, rfl⟩
        rw [hxe] at hx
        rw [hye] at hy
        have q0 := hx.c0
        have q1 := hx.c1
        have q2 := hx.c2
        have r0' := hy.c0
        have r1' := hy.c1
        have r2' := hy.c2
        obtain ⟨AX, cX, q3, hvx⟩ := hx.ok
        obtain ⟨AY, cY, r3', hvy⟩ := hy.ok
        have HBX := below1 wr (.cells #[.string x.name, .int .i64 x.params, .int .i64 x.regs, .slice AX x.code.length cX] 37)
        have r0 := (bl_cell HBX hy.lt).trans r0'
        have r1 := (bl_cell HBX hy.lt).trans r1'
        have r2 := (bl_cell HBX hy.lt).trans r2'
        have r3 := (bl_cell HBX hy.lt).trans r3'
        have HC : Hid (∀ V, Below wr.heap.size wr V → Calls Tryd.prog 42 #[fv x AX cX, fv y AY cY] V fun e w' => e = .returned (.bool (decide (x = y))) ∧ Below V.heap.size V w') := Lib.hid fun V hV =>
          eqFn_any x y AX AY cX cY V (hvx.below hV) (hvy.below hV)
        clear hvx hvy HBX r0' r1' r2' r3'
        have HX := Lib.hid hxe
        have HY := Lib.hid hye
        have kk0 : (0 : Int) ≤ (k : Int) := by omega
        have kk1 : (k : Int) < (l.length : Int) := by omega
        have kk2 : (k : Int) < (m.length : Int) := by omega
        clear hx hy hxe hye hA hB
        by_cases hxy : x = y
        · have hd1 : decide (x = y) = true := decide_eq_true hxy
          rw [hd1] at HC
          have HE : Hid (l.take (k + 1) = m.take (k + 1)) := Lib.hid (take_eq hkl hkm he.out (by rw [HX.out, HY.out]; exact hxy))
          clear hxy hd1
          go_wp2_with fail
          refine (HC.out _ (below2 _ _ _)).mono ?_
          rintro e w3 ⟨rfl, hw3⟩
          go_wp2
          go_roundw
          case rel => exact ⟨k + 1, by omega, by go_num, HE, Lib.hid ((hd.out.trans ((below2 _ _ _).mono hd.out.size)).trans (hw3.mono (hd.out.trans ((below2 _ _ _).mono hd.out.size)).size))⟩
          case measure => simp [intOf]; omega
        · have hd1 : decide (x = y) = false := decide_eq_false hxy
          rw [hd1] at HC
          have HE : Hid (decide (l = m) = false) := Lib.hid (decide_eq_false (ne_at hkl hkm (by rw [HX.out, HY.out]; exact hxy)))
          clear hxy hd1
          go_wp2_with fail
          refine (HC.out _ (below2 _ _ _)).mono ?_
          rintro e w3 ⟨rfl, hw3⟩
          go_wp2
          go_ret
          exact ⟨retb HE.out.symm, (hd.out.trans ((below2 _ _ _).mono hd.out.size)).trans (hw3.mono (hd.out.trans ((below2 _ _ _).mono hd.out.size)).size)⟩
      · obtain rfl : k = l.length := by omega
        have HE : Hid (decide (l = m) = true) := Lib.hid (decide_eq_true (take_all HNE.out he.out))
        go_wp2
        go_ret
        exact ⟨retb HE.out.symm, hd.out⟩
  · have hne2 : ((l.length : Int) != (m.length : Int)) = true := by simp; omega
    have HE : Hid (decide (l = m) = false) := Lib.hid (decide_eq_false fun e => hne (by rw [e]))
    go_enter Tryd.func48, Tryd.ntmps48
    go_wp2
    go_ret
    exact ⟨retb HE.out.symm, Below.refl _ _⟩
set_option maxRecDepth 100000 in
set_option maxHeartbeats 4000000 in
theorem cequal_any (p : Pg) (A B D : Option Addr) (ca cb cd : Nat) (q : Pg) (A' B' D' : Option Addr) (ca' cb' cd' : Nat) (w : World) (hp : PgAt w p A B D ca cb cd) (hq : PgAt w q A' B' D' ca' cb' cd') :
    Calls Tryd.prog 17 #[pv p A B D ca cb cd, pv q A' B' D' ca' cb' cd'] w fun e w' => e = .returned (.bool (decide (p = q))) ∧ Below w.heap.size w w' := by
  have HG : Hid (∀ V, Below w.heap.size w V → Calls Tryd.prog 46 #[.slice B p.globals.length cb, .slice B' q.globals.length cb'] V fun e w' => e = .returned (.bool (decide (p.globals = q.globals))) ∧ Below V.heap.size V w') := Lib.hid fun V hV => eqGl_any B B' cb cb' _ _ V hp.kb.2 hq.kb.2 (hp.below hV).gs (hq.below hV).gs
  have HL : Hid (∀ V, Below w.heap.size w V → Calls Tryd.prog 47 #[.slice D p.layouts.length cd, .slice D' q.layouts.length cd', .func (.func 44) #[] #[]] V fun e w' => e = .returned (.bool (decide (p.layouts = q.layouts))) ∧ Below V.heap.size V w') := Lib.hid fun V hV => efLay_any D D' cd cd' _ _ V hp.kd.2 hq.kd.2 (hp.below hV).ls (hq.below hV).ls
  have HF : Hid (∀ V, Below w.heap.size w V → Calls Tryd.prog 48 #[.slice A p.funcs.length ca, .slice A' q.funcs.length ca', .func (.func 42) #[] #[]] V fun e w' => e = .returned (.bool (decide (p.funcs = q.funcs))) ∧ Below V.heap.size V w') := Lib.hid fun V hV => efFn_any A A' ca ca' _ _ V hp.ka.2 hq.ka.2 (hp.below hV).fs (hq.below hV).fs
  have h1 := Lib.hid (B1.new p A B D ca cb cd w)
  have h2 := heap_alloc_new (w.alloc (.cells #[.slice A p.funcs.length ca, .slice B p.globals.length cb, .slice D p.layouts.length cd, .int .i64 p.main] 26)) (.cells #[.slice A' q.funcs.length ca', .slice B' q.globals.length cb', .slice D' q.layouts.length cd', .int .i64 q.main] 26)
  rw [World.size_alloc] at h2
  have HN := Lib.hid h2
  clear hp hq h2
  by_cases m0 : p.main = q.main
  · have e0 : ((p.main : Int) == q.main) = true := by simp [m0]
    by_cases m1 : p.globals = q.globals
    · have f1 : decide (p.globals = q.globals) = true := decide_eq_true m1
      rw [f1] at HG
      by_cases m2 : p.layouts = q.layouts
      · have f2 : decide (p.layouts = q.layouts) = true := decide_eq_true m2
        rw [f2] at HL
        have HE : Hid (decide (p = q) = decide (p.funcs = q.funcs)) := Lib.hid (by rw [Bool.eq_iff_iff]; simp only [decide_eq_true_eq]; exact ⟨fun e => by rw [e], fun e => by cases p; cases q; simp_all⟩)
        obtain ⟨b, hb⟩ : ∃ b, decide (p.funcs = q.funcs) = b := ⟨_, rfl⟩
        rw [hb] at HF HE
        clear m0 m1 m2 f1 f2 hb
        go_enter Tryd.func17, Tryd.ntmps17
        go_wp2_with fail
        refine (HG.out _ (below2 _ _ _)).mono ?_
        rintro e w1 ⟨rfl, hw1⟩
        have k1 := Lib.hid ((h1.out.keep (below1 _ _)).keep hw1)
        have s1 := Lib.hid ((hw1.block (w.heap.size + 1) (by simp)).trans HN.out)
        clear hw1
        obtain ⟨y00, y01, y02, y03, yb⟩ := k1.out
        have z0 : w1.cell? ⟨w.heap.size + 1, 0, none⟩ = some (.slice A' q.funcs.length ca') := by simp [World.cell?, s1.out]
        have z1 : w1.cell? ⟨w.heap.size + 1, 1, none⟩ = some (.slice B' q.globals.length cb') := by simp [World.cell?, s1.out]
        have z2 : w1.cell? ⟨w.heap.size + 1, 2, none⟩ = some (.slice D' q.layouts.length cd') := by simp [World.cell?, s1.out]
        have z3 : w1.cell? ⟨w.heap.size + 1, 3, none⟩ = some (.int .i64 q.main) := by simp [World.cell?, s1.out]
        have b1 := Lib.hid yb
        clear yb
        go_wp2_with fail
        refine (HL.out _ b1.out).mono ?_
        rintro e w2 ⟨rfl, hw2⟩
        clear y00 y01 y02 y03 z0 z1 z2 z3
        have k2 := Lib.hid (k1.out.keep hw2)
        have s2 := Lib.hid ((hw2.block (w.heap.size + 1) (World.block_lt_of_cell? w1 ⟨w.heap.size + 1, 0, none⟩ (u := .slice A' q.funcs.length ca') (by simp [World.cell?, s1.out]))).trans s1.out)
        clear hw2
        obtain ⟨y00, y01, y02, y03, yb⟩ := k2.out
        have z0 : w2.cell? ⟨w.heap.size + 1, 0, none⟩ = some (.slice A' q.funcs.length ca') := by simp [World.cell?, s2.out]
        have z1 : w2.cell? ⟨w.heap.size + 1, 1, none⟩ = some (.slice B' q.globals.length cb') := by simp [World.cell?, s2.out]
        have z2 : w2.cell? ⟨w.heap.size + 1, 2, none⟩ = some (.slice D' q.layouts.length cd') := by simp [World.cell?, s2.out]
        have z3 : w2.cell? ⟨w.heap.size + 1, 3, none⟩ = some (.int .i64 q.main) := by simp [World.cell?, s2.out]
        have b2 := Lib.hid yb
        clear yb
        go_wp2_with fail
        refine (HF.out _ b2.out).mono ?_
        rintro e w3 ⟨rfl, hw3⟩
        clear y00 y01 y02 y03 z0 z1 z2 z3
        have k3 := Lib.hid (k2.out.keep hw3)
        have s3 := Lib.hid ((hw3.block (w.heap.size + 1) (World.block_lt_of_cell? w2 ⟨w.heap.size + 1, 0, none⟩ (u := .slice A' q.funcs.length ca') (by simp [World.cell?, s2.out]))).trans s2.out)
        clear hw3
        obtain ⟨y00, y01, y02, y03, yb⟩ := k3.out
        have z0 : w3.cell? ⟨w.heap.size + 1, 0, none⟩ = some (.slice A' q.funcs.length ca') := by simp [World.cell?, s3.out]
        have z1 : w3.cell? ⟨w.heap.size + 1, 1, none⟩ = some (.slice B' q.globals.length cb') := by simp [World.cell?, s3.out]
        have z2 : w3.cell? ⟨w.heap.size + 1, 2, none⟩ = some (.slice D' q.layouts.length cd') := by simp [World.cell?, s3.out]
        have z3 : w3.cell? ⟨w.heap.size + 1, 3, none⟩ = some (.int .i64 q.main) := by simp [World.cell?, s3.out]
        have b3 := Lib.hid yb
        clear yb
        go_wp2
        go_ret
        exact ⟨retb HE.out.symm, b3.out⟩
      · have f2 : decide (p.layouts = q.layouts) = false := decide_eq_false m2
        rw [f2] at HL
        have HE : Hid (decide (p = q) = false) := Lib.hid (decide_eq_false fun e => m2 (by rw [e]))
        clear m0 m1 m2 f1 f2
        go_enter Tryd.func17, Tryd.ntmps17
        go_wp2_with fail
        refine (HG.out _ (below2 _ _ _)).mono ?_
        rintro e w1 ⟨rfl, hw1⟩
        have k1 := Lib.hid ((h1.out.keep (below1 _ _)).keep hw1)
        have s1 := Lib.hid ((hw1.block (w.heap.size + 1) (by simp)).trans HN.out)
        clear hw1
        obtain ⟨y00, y01, y02, y03, yb⟩ := k1.out
        have z0 : w1.cell? ⟨w.heap.size + 1, 0, none⟩ = some (.slice A' q.funcs.length ca') := by simp [World.cell?, s1.out]
        have z1 : w1.cell? ⟨w.heap.size + 1, 1, none⟩ = some (.slice B' q.globals.length cb') := by simp [World.cell?, s1.out]
        have z2 : w1.cell? ⟨w.heap.size + 1, 2, none⟩ = some (.slice D' q.layouts.length cd') := by simp [World.cell?, s1.out]
        have z3 : w1.cell? ⟨w.heap.size + 1, 3, none⟩ = some (.int .i64 q.main) := by simp [World.cell?, s1.out]
        have b1 := Lib.hid yb
        clear yb
        go_wp2_with fail
        refine (HL.out _ b1.out).mono ?_
        rintro e w2 ⟨rfl, hw2⟩
        clear y00 y01 y02 y03 z0 z1 z2 z3
        have k2 := Lib.hid (k1.out.keep hw2)
        have s2 := Lib.hid ((hw2.block (w.heap.size + 1) (World.block_lt_of_cell? w1 ⟨w.heap.size + 1, 0, none⟩ (u := .slice A' q.funcs.length ca') (by simp [World.cell?, s1.out]))).trans s1.out)
        clear hw2
        obtain ⟨y00, y01, y02, y03, yb⟩ := k2.out
        have z0 : w2.cell? ⟨w.heap.size + 1, 0, none⟩ = some (.slice A' q.funcs.length ca') := by simp [World.cell?, s2.out]
        have z1 : w2.cell? ⟨w.heap.size + 1, 1, none⟩ = some (.slice B' q.globals.length cb') := by simp [World.cell?, s2.out]
        have z2 : w2.cell? ⟨w.heap.size + 1, 2, none⟩ = some (.slice D' q.layouts.length cd') := by simp [World.cell?, s2.out]
        have z3 : w2.cell? ⟨w.heap.size + 1, 3, none⟩ = some (.int .i64 q.main) := by simp [World.cell?, s2.out]
        have b2 := Lib.hid yb
        clear yb
        go_wp2
        go_ret
        exact ⟨retb HE.out.symm, b2.out⟩
    · have f1 : decide (p.globals = q.globals) = false := decide_eq_false m1
      rw [f1] at HG
      have HE : Hid (decide (p = q) = false) := Lib.hid (decide_eq_false fun e => m1 (by rw [e]))
      clear m0 m1 f1
      go_enter Tryd.func17, Tryd.ntmps17
      go_wp2_with fail
      refine (HG.out _ (below2 _ _ _)).mono ?_
      rintro e w1 ⟨rfl, hw1⟩
      have k1 := Lib.hid ((h1.out.keep (below1 _ _)).keep hw1)
      have s1 := Lib.hid ((hw1.block (w.heap.size + 1) (by simp)).trans HN.out)
      clear hw1
      obtain ⟨y00, y01, y02, y03, yb⟩ := k1.out
      have z0 : w1.cell? ⟨w.heap.size + 1, 0, none⟩ = some (.slice A' q.funcs.length ca') := by simp [World.cell?, s1.out]
      have z1 : w1.cell? ⟨w.heap.size + 1, 1, none⟩ = some (.slice B' q.globals.length cb') := by simp [World.cell?, s1.out]
      have z2 : w1.cell? ⟨w.heap.size + 1, 2, none⟩ = some (.slice D' q.layouts.length cd') := by simp [World.cell?, s1.out]
      have z3 : w1.cell? ⟨w.heap.size + 1, 3, none⟩ = some (.int .i64 q.main) := by simp [World.cell?, s1.out]
      have b1 := Lib.hid yb
      clear yb
      go_wp2
      go_ret
      exact ⟨retb HE.out.symm, b1.out⟩
  · have e0 : ((p.main : Int) == q.main) = false := by simp [m0]
    have HE : Hid (decide (p = q) = false) := Lib.hid (decide_eq_false fun e => m0 (by rw [e]))
    clear m0
    go_enter Tryd.func17, Tryd.ntmps17
    go_wp2
    go_ret
    exact ⟨retb HE.out.symm, below2 _ _ _⟩
end Go.Proofs.YtekfhgldebhigaaDoor
