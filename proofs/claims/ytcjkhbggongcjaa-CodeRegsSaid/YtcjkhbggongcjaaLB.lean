/-
  The law's own below; the law CodeBelow.
-/
import Derived.Test.YtcjkhbggongcjaaLA
import Derived.Deep.RegionHeld3
set_option linter.all false
namespace Go.Proofs.Ytcjkhbggongcjaa
open Go.RowKit C
set_option maxRecDepth 100000 in
set_option maxHeartbeats 4000000 in
theorem below_row (A : Option Addr) (l : List Int) (cap : Nat) (n : Int) (w : World) (hl : l.length ≤ maxLen) (hr : Row 1 (IntAt w) A l) (hb : C.below l n) :
    Calls Try.prog 27 #[.slice A l.length cap, .int .i64 n] w fun e w' => e = .returned (.bool true) ∧ Below w.heap.size w w' := by
  unfold maxLen at hl
  have HR := Lib.hid hr
  have HB := Lib.hid hb
  clear hr hb
  go_enter Try.func27, Try.ntmps27
  go_wp2
  go_loopw [5] (fun i wr => ∃ k : Nat, k ≤ l.length ∧ i = .int .i64 k ∧ Hid (Below w.heap.size w wr)) (fun i _ => l.length - (intOf i).toNat)
  case atStart => exact ⟨0, Nat.zero_le _, rfl, Lib.hid (Below.refl _ _)⟩
  case round =>
    obtain ⟨k, hk, rfl, hd⟩ := hrel
    by_cases hlt : k < l.length
    · obtain ⟨g, o, rfl, hh⟩ := HR.out.at (by omega)
      have a0 := ((hh k hlt).below hd.out).c0
      obtain ⟨x, hx⟩ : ∃ x, l[k] = x := ⟨_, rfl⟩
      rw [hx, Nat.mul_one] at a0
      have hxr := HB.out.2 x (hx ▸ List.getElem_mem hlt)
      have d0 : decide (x < 0) = false := by simp; omega
      have d1 : decide (n ≤ x) = false := by simp; omega
      have kk0 : (0 : Int) ≤ (k : Int) := by omega
      have kk1 : (k : Int) < (l.length : Int) := by omega
      by_cases h0 : k = 0
      · have d2 : decide (0 < k) = false := by simp; omega
        clear h0 hxr hh
        go_wp2_with fail
        go_quiet (fail)
        go_wp2
        go_roundw
        case rel => exact ⟨k + 1, by omega, by go_num, Lib.hid (bel_drewN hd.out _)⟩
        case measure => simp [intOf]; omega
      · have d2 : decide (0 < k) = true := by simp; omega
        have b0 := ((hh (k - 1) (by omega)).below hd.out).c0
        obtain ⟨y, hy⟩ : ∃ y, l[k - 1]'(by omega) = y := ⟨_, rfl⟩
        rw [hy, Nat.mul_one] at b0
        have hxy : y < x := by
          rw [← hx, ← hy]
          exact (List.pairwise_iff_getElem.1 HB.out.1) (k - 1) k (by omega) hlt (by omega)
        have d3 : decide (x ≤ y) = false := by simp; omega
        have ek : ((k : Int) - 1).toNat = k - 1 := by omega
        have kk2 : (0 : Int) ≤ (k : Int) - 1 := by omega
        have kk3 : (k : Int) - 1 < (l.length : Int) := by omega
        clear h0 hxr hh hxy
        go_wp2_with fail
        go_quiet (fail)
        go_wp2
        go_roundw
        case rel => exact ⟨k + 1, by omega, by go_num, Lib.hid (bel_drewN hd.out _)⟩
        case measure => simp [intOf]; omega
    · obtain rfl : k = l.length := by omega
      go_wp2
      go_ret
      exact ⟨rfl, hd.out⟩
theorem i64s2 {v : Int} (h : -100 ≤ v ∧ v ≤ 100) : i64 v := by unfold i64; omega
/-- The box of a program stands, and a cell. -/
def BR (p : Pg) (A B D : Option Addr) (ca cb cd : Nat) (r : Addr) (v : Value) (w w' : World) : Prop := w'.cell? ⟨w.heap.size, 0, none⟩ = some (.slice A p.funcs.length ca) ∧ w'.cell? ⟨w.heap.size, 1, none⟩ = some (.slice B p.globals.length cb) ∧ w'.cell? ⟨w.heap.size, 2, none⟩ = some (.slice D p.layouts.length cd) ∧ w'.cell? ⟨w.heap.size, 3, none⟩ = some (.int .i64 p.main) ∧ w'.cell? r = some v ∧ Below w.heap.size w w'
theorem BR.keep {p : Pg} {A B D : Option Addr} {ca cb cd : Nat} {r : Addr} {v : Value} {w V w' : World} (h : BR p A B D ca cb cd r v w V) (hb : Below V.heap.size V w') : BR p A B D ca cb cd r v w w' := by
  obtain ⟨y0, y1, y2, y3, y4, b⟩ := h
  exact ⟨cell_bel y0 hb, cell_bel y1 hb, cell_bel y2 hb, cell_bel y3 hb, by rw [hb.cell (p := r) (World.block_lt_of_cell? V _ y4)]; exact y4, b.trans (hb.mono b.size)⟩
theorem BR.drew {p : Pg} {A B D : Option Addr} {ca cb cd : Nat} {r : Addr} {v : Value} {w V : World} (h : BR p A B D ca cb cd r v w V) : BR p A B D ca cb cd r v w V.drew := by
  obtain ⟨y0, y1, y2, y3, y4, b⟩ := h
  exact ⟨y0, y1, y2, y3, y4, Below.drew b⟩
theorem BR.box {p : Pg} {A B D : Option Addr} {ca cb cd : Nat} {r : Addr} {v : Value} {w V : World} (h : BR p A B D ca cb cd r v w V) : B1 p A B D ca cb cd w V := by
  obtain ⟨y0, y1, y2, y3, y4, b⟩ := h
  exact ⟨y0, y1, y2, y3, b⟩
/-- A list of the call's own, asked. -/
theorem below_own {base : Nat} {w : World} {v : Value} {l : List Int} {n : Int} (h : w.ownsRow base 3 1 v l.length (l.map (Value.int .i64))) (hb : C.below l n) (hn : n ≤ 64) (hl : l.length ≤ 1000) :
    Calls Try.prog 27 #[v, .int .i64 n] w fun e w' => e = .returned (.bool true) ∧ Below w.heap.size w w' := by
  obtain ⟨A, c, rfl, hc, hr, _⟩ := own_ints h (fun x hx => i64s2 (by have := hb.2 x hx; omega))
  exact below_row A l c n w (by unfold maxLen; omega) hr hb
theorem inc_len : ∀ {l : List Int} {n : Int}, C.below l n → 0 ≤ n → (l.length : Int) ≤ n := by
  intro l n h h0
  have key : ∀ (l : List Int) (a : Int), l.Pairwise (· < ·) → (∀ x ∈ l, a ≤ x ∧ x < n) → a ≤ n → (l.length : Int) ≤ n - a := by
    intro l
    induction l with
    | nil => intro a _ _ h; simp; omega
    | cons x r ih =>
      intro a hp hx ha
      rw [List.pairwise_cons] at hp
      have h1 := hx x (by simp)
      have := ih (x + 1) hp.2 (fun y hy => ⟨by have := hp.1 y hy; omega, (hx y (by simp [hy])).2⟩) (by omega)
      simp only [List.length_cons]; omega
  have := key l 0 h.1 h.2 h0
  omega
theorem usesF_below {p : Pg} (hv : validB p = true) {i j : Nat} (h1 : i < p.funcs.length) (h2 : j < p.funcs[i].code.length) : C.below (usesF p i j) p.funcs[i].regs := by
  unfold usesF
  cases hb : (insF p i j).2 with
  | false => exact ⟨List.Pairwise.nil, fun x hx => by cases hx⟩
  | true =>
    obtain ⟨k1, k2, _, _, _, hx⟩ := insF_true hb
    simp only [Int.toNat_natCast] at hx
    have e : p.funcs.getD (i : Int).toNat default = p.funcs[i] := by rw [Int.toNat_natCast]; exact getDF h1
    have := uses_below hv (List.getElem_mem h1) h2
    rw [if_pos rfl, hx, e]
    simpa using this
theorem defsF_below {p : Pg} (hv : validB p = true) {i j : Nat} (h1 : i < p.funcs.length) (h2 : j < p.funcs[i].code.length) : C.below (defsF p i j) p.funcs[i].regs := by
  unfold defsF
  cases hb : (insF p i j).2 with
  | false => exact ⟨List.Pairwise.nil, fun x hx => by cases hx⟩
  | true =>
    obtain ⟨k1, k2, _, _, _, hx⟩ := insF_true hb
    simp only [Int.toNat_natCast] at hx
    rw [if_pos rfl, hx]
    simpa using defs_below hv (List.getElem_mem h1) h2
set_option maxRecDepth 100000 in
set_option maxHeartbeats 16000000 in
theorem law_CodeBelow (p : Pg) (A B D : Option Addr) (ca cb cd : Nat) (w : World) (hp : PgAt w p A B D ca cb cd) : Calls Try.prog 9 #[pv p A B D ca cb cd] w fun e w' => e = .returned (.bool true) ∧ Below w.heap.size w w' := by
  have HN := Lib.hid (B1.new p A B D ca cb cd w)
  have HR : Hid (∀ V, Below w.heap.size w V → Calls Try.prog 12 #[pv p A B D ca cb cd] V fun e w' => e = .returned (.bool (validB p)) ∧ Below V.heap.size V w') := Lib.hid fun V hV => rvalid_any p A B D ca cb cd V (hp.below hV)
  have HW : Hid (∀ V, Calls Try.prog 10 #[] V fun e w' => e = .returned (.bool true) ∧ Below V.heap.size V w') := Lib.hid awake_any
  cases hb : validB p with
  | false =>
    simp only [hb] at HR
    clear hb hp
    go_enter Try.func9, Try.ntmps9
    go_wp2_with fail
    refine (HW.out _).mono ?_
    rintro e w1 ⟨rfl, hw1⟩
    have hb1 := Lib.hid (HN.out.keep hw1)
    obtain ⟨y00, y01, y02, y03, yb⟩ := hb1.out
    have HB1 := Lib.hid yb
    clear hw1 yb
    go_wp2_with fail
    refine (HR.out _ HB1.out).mono ?_
    rintro e w2 ⟨rfl, hw2⟩
    have hb2 := Lib.hid (hb1.out.keep hw2)
    clear y00 y01 y02 y03 hw2
    obtain ⟨y00, y01, y02, y03, yb⟩ := hb2.out
    have HB2 := Lib.hid yb
    clear yb
    go_wp2_with fail
    refine (HW.out _).mono ?_
    rintro e w3 ⟨rfl, hw3⟩
    go_wp2
    go_ret
    exact ⟨rfl, HB2.out.trans (hw3.mono HB2.out.size)⟩
  | true =>
    simp only [hb] at HR
    have HV := Lib.hid hb
    have HP := Lib.hid hp
    have hml := hp.ka.2
    unfold maxLen at hml
    clear hb hp
    go_enter Try.func9, Try.ntmps9
    go_wp2_with fail
    refine (HW.out _).mono ?_
    rintro e w1 ⟨rfl, hw1⟩
    have hb1 := Lib.hid (HN.out.keep hw1)
    obtain ⟨y00, y01, y02, y03, yb⟩ := hb1.out
    have HB1 := Lib.hid yb
    clear hw1 yb
    go_wp2_with fail
    refine (HR.out _ HB1.out).mono ?_
    rintro e w2 ⟨rfl, hw2⟩
    have hb2 := Lib.hid (hb1.out.keep hw2)
    clear y00 y01 y02 y03 hw2
    obtain ⟨y00, y01, y02, y03, yb⟩ := hb2.out
    have HB2 := Lib.hid yb
    clear yb
    go_wp2
    clear y00 y01 y02 y03
    go_loopw [3] (fun i wr => ∃ k : Nat, k ≤ p.funcs.length ∧ i = .int .i64 k ∧ Hid (B1 p A B D ca cb cd w wr)) (fun i _ => p.funcs.length - (intOf i).toNat)
    case atStart => exact ⟨0, Nat.zero_le _, rfl, hb2⟩
    case round =>
      clear hb1 hb2 HB1 HB2
      obtain ⟨k, hk, rfl, hbx⟩ := hrel
      obtain ⟨y00, y01, y02, y03, yb⟩ := hbx.out
      have HYB := Lib.hid yb
      clear yb
      by_cases hlt : k < p.funcs.length
      · obtain ⟨gA, oA, rfl, hA⟩ := HP.out.fs.at (by omega)
        have hfx := hA k hlt
        obtain ⟨f, hfe⟩ : ∃ f, p.funcs[k] = f := ⟨_, rfl⟩
        rw [hfe] at hfx
        have hfm : f ∈ p.funcs := hfe ▸ List.getElem_mem hlt
        have hfn := valid_fn HV.out hfm
        have hregs := hfn.par
        have h1000 := hfn.len.2
        have HBU : Hid (∀ j : Nat, j < f.code.length → ∀ V, Below w.heap.size w V → Calls Try.prog 21 #[pv p (some ⟨gA, oA, none⟩) B D ca cb cd, .int .i64 (k : Int), .int .i64 (j : Int)] V (RetOwn (usesF p k j) V)) := Lib.hid fun j hj V hV => cuses_any p (some ⟨gA, oA, none⟩) B D ca cb cd k j V (HP.out.below hV) HV.out (by unfold i64; omega) (by unfold i64; omega)
        have HBD : Hid (∀ j : Nat, j < f.code.length → ∀ V, Below w.heap.size w V → Calls Try.prog 23 #[pv p (some ⟨gA, oA, none⟩) B D ca cb cd, .int .i64 (k : Int), .int .i64 (j : Int)] V (RetOwn (defsF p k j) V)) := Lib.hid fun j hj V hV => cdefs_any p (some ⟨gA, oA, none⟩) B D ca cb cd k j V (HP.out.below hV) HV.out (by unfold i64; omega) (by unfold i64; omega)
        have HUL : Hid (∀ j : Nat, j < f.code.length → C.below (usesF p k j) f.regs) := Lib.hid fun j hj => by have := usesF_below HV.out hlt (j := j) (by rw [hfe]; exact hj); rwa [hfe] at this
        have HDL : Hid (∀ j : Nat, j < f.code.length → C.below (defsF p k j) f.regs) := Lib.hid fun j hj => by have := defsF_below HV.out hlt (j := j) (by rw [hfe]; exact hj); rwa [hfe] at this
        obtain ⟨Af, caf, hq3, hvv⟩ := hfx.ok
        have HFN := Lib.hid hfx
        have HQ3 := Lib.hid hq3
        have kk0 : (0 : Int) ≤ (k : Int) := by omega
        have kk1 : (k : Int) < (p.funcs.length : Int) := by omega
        clear hA hfx hfe hfm hfn hq3 hvv
        go_wp2
        clear y00 y01 y02 y03
        go_loopw [4] (fun i V => ∃ j : Nat, j ≤ f.code.length ∧ i = .int .i64 j ∧ Hid (B1 p (some ⟨gA, oA, none⟩) B D ca cb cd w V)) (fun i _ => f.code.length - (intOf i).toNat)
        case atStart => exact ⟨0, Nat.zero_le _, rfl, hbx⟩
        case round =>
          clear hbx HYB
          obtain ⟨j, hj, rfl, hbx⟩ := hrel
          obtain ⟨y00, y01, y02, y03, yb⟩ := hbx.out
          have q2 := (HFN.out.below yb).c2
          have q3 := (bl_cell yb HFN.out.lt).trans HQ3.out
          have HYB := Lib.hid yb
          clear yb
          by_cases hjl : j < f.code.length
          · have HU := Lib.hid (HBU.out j hjl)
            have HD := Lib.hid (HBD.out j hjl)
            have hul := HUL.out j hjl
            have hdl := HDL.out j hjl
            have l1 := inc_len hul (by omega)
            have l2 := inc_len hdl (by omega)
            obtain ⟨lu, hlu⟩ : ∃ lu, usesF p k j = lu := ⟨_, rfl⟩
            obtain ⟨ld, hld⟩ : ∃ ld, defsF p k j = ld := ⟨_, rfl⟩
            rw [hlu] at HU hul l1
            rw [hld] at HD hdl l2
            have HBW : Hid (∀ (V : World) (v : Value), (∃ base, V.ownsRow base 3 1 v lu.length (lu.map (Value.int .i64))) → Calls Try.prog 27 #[v, .int .i64 f.regs] V fun e w' => e = .returned (.bool true) ∧ Below V.heap.size V w') := Lib.hid fun V v ⟨base, h⟩ => below_own h hul (by omega) (by omega)
            have HBV : Hid (∀ (V : World) (v : Value), (∃ base, V.ownsRow base 3 1 v ld.length (ld.map (Value.int .i64))) → Calls Try.prog 27 #[v, .int .i64 f.regs] V fun e w' => e = .returned (.bool true) ∧ Below V.heap.size V w') := Lib.hid fun V v ⟨base, h⟩ => below_own h hdl (by omega) (by omega)
            have jj0 : (0 : Int) ≤ (j : Int) := by omega
            have jj1 : (j : Int) < (f.code.length : Int) := by omega
            clear hlu hld hul hdl l1 l2
            have hbr := Lib.hid (⟨y00, y01, y02, y03, q2, HYB.out⟩ : BR p (some ⟨gA, oA, none⟩) B D ca cb cd ⟨gA, oA + k * 4 + 2, none⟩ (.int .i64 f.regs) w wr)
            go_wp2_with fail
            go_region_held3 (fun w' => w'.cell? ⟨w.heap.size, 0, none⟩ = some (.slice (some ⟨gA, oA, none⟩) p.funcs.length ca) ∧ w'.cell? ⟨w.heap.size, 1, none⟩ = some (.slice B p.globals.length cb) ∧ w'.cell? ⟨w.heap.size, 2, none⟩ = some (.slice D p.layouts.length cd) ∧ w'.cell? ⟨w.heap.size, 3, none⟩ = some (.int .i64 p.main) ∧ w'.cell? ⟨gA, oA + k * 4 + 2, none⟩ = some (.int .i64 f.regs) ∧ Below w.heap.size w w')
              (first
                | exact BR.drew hbr.out
                | assumption
                | (refine BR.keep (p := p) (A := (some ⟨gA, oA, none⟩)) (B := B) (D := D) (ca := ca) (cb := cb) (cd := cd) (w := w) (r := ⟨gA, oA + k * 4 + 2, none⟩) (v := .int .i64 f.regs) ?_ hbb; assumption))
              (first
                | (go_at_call 21; (with_reducible refine (HU.out _ ?_).mono ?_); (go_split_ands; assumption); rintro e w' ⟨vu, rfl, hou, hbb⟩)
                | (go_at_call 23; (with_reducible refine (HD.out _ ?_).mono ?_); (go_split_ands; assumption); rintro e w' ⟨vd, rfl, hod, hbb⟩)
                | (go_at_call 27; (with_reducible refine (HBW.out _ _ ?_).mono ?_); (exact ⟨_, hou⟩); rintro e w' ⟨rfl, hbb⟩)
                | (go_at_call 27; (with_reducible refine (HBV.out _ _ ?_).mono ?_); (exact ⟨_, hod⟩); rintro e w' ⟨rfl, hbb⟩))
            all_goals
              have HZ : Hid (B1 p (some ⟨gA, oA, none⟩) B D ca cb cd w w') := Lib.hid (BR.box (r := ⟨gA, oA + k * 4 + 2, none⟩) (v := .int .i64 f.regs) (by assumption))
              go_wp2
              go_roundw
              case rel => exact ⟨j + 1, by omega, by go_num, HZ⟩
              case measure => simp [intOf]; omega
          · obtain rfl : j = f.code.length := by omega
            go_wp2
            go_roundw
            case rel => exact ⟨k + 1, by omega, by go_num, hbx⟩
            case measure => simp [intOf]; omega
      · obtain rfl : k = p.funcs.length := by omega
        go_wp2
        go_ret
        exact ⟨rfl, HYB.out⟩
end Go.Proofs.Ytcjkhbggongcjaa
