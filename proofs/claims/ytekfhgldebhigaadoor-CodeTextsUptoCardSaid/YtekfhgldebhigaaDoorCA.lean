/-
  The walks of the program's areKinds, hasMain, hasSizes, hasEnd, leadingCases.
-/
import Derived.Test.YtekfhgldebhigaaDoorRB
import Derived.Test.YtekfhgldebhigaaDoorMD
set_option linter.all false
namespace Go.Proofs.YtekfhgldebhigaaDoor
open Go.RowKit C
theorem kinds_take {l : List Int} {k : Nat} (h : k < l.length) : kindsOk (l.take (k + 1)) = (kindsOk (l.take k) && decide (l[k] = 0 ∨ l[k] = 1)) := by
  unfold kindsOk
  rw [List.take_succ_eq_append_getElem h, List.all_append]; simp
theorem kinds_bad {l : List Int} {k : Nat} (h : k < l.length) (hb : ¬ (l[k] = 0 ∨ l[k] = 1)) : kindsOk l = false := by
  rw [← Bool.not_eq_true]; unfold kindsOk; rw [List.all_eq_true]
  intro a; have := a l[k] (List.getElem_mem h); simp only [decide_eq_true_eq] at this; exact hb this
set_option maxHeartbeats 2000000 in
theorem areKinds_any (A : Option Addr) (l : List Int) (cap : Nat) (w : World) (hl : l.length ≤ maxLen) (hr : Row 1 (IntAt w) A l) :
    Calls Tryd.prog 55 #[.slice A l.length cap] w fun e w' => e = .returned (.bool (kindsOk l)) ∧ w = w' := by
  unfold maxLen at hl
  have HR := Lib.hid hr
  clear hr
  go_enter Tryd.func55, Tryd.ntmps55
  go_wp2
  go_loop [7] (fun i => ∃ k : Nat, k ≤ l.length ∧ i = .int .i64 k ∧ Hid (kindsOk (l.take k) = true)) (fun i => l.length - (intOf i).toNat)
  case atStart => exact ⟨0, Nat.zero_le _, rfl, Lib.hid rfl⟩
  case round =>
    obtain ⟨k, hk, rfl, hok⟩ := hrel
    by_cases hlt : k < l.length
    · obtain ⟨g, o, rfl, hh⟩ := HR.out.at (by omega)
      have hc := (hh k hlt).c0
      obtain ⟨x, hx⟩ : ∃ x, l[k] = x := ⟨_, rfl⟩
      rw [hx, Nat.mul_one] at hc
      have HX := Lib.hid hx
      clear hx hh
      by_cases h0 : x = 0
      · have e1 : ((x : Int) != 0) = false := by simp [h0]
        go_wp2
        go_round
        case rel => exact ⟨k + 1, by omega, by go_num, Lib.hid (by rw [kinds_take hlt, hok.out, HX.out]; simp [h0])⟩
        case measure => simp [intOf]; omega
      · have e1 : ((x : Int) != 0) = true := by simp [h0]
        by_cases h1 : x = 1
        · have e2 : ((x : Int) != 1) = false := by simp [h1]
          go_wp2
          go_round
          case rel => exact ⟨k + 1, by omega, by go_num, Lib.hid (by rw [kinds_take hlt, hok.out, HX.out]; simp [h1])⟩
          case measure => simp [intOf]; omega
        · have e2 : ((x : Int) != 1) = true := by simp [h1]
          go_wp2
          go_ret
          exact ⟨retb (kinds_bad hlt (by rw [HX.out]; omega)).symm, rfl⟩
    · obtain rfl : k = l.length := by omega
      go_wp2
      go_ret
      exact ⟨retb (by rw [← hok.out, List.take_length]), rfl⟩
theorem below1 (w : World) (o : Obj) : Below w.heap.size w (w.alloc o) := (Below.refl _ _).alloc (Nat.le_refl _) o
theorem below2 (w : World) (o o2 : Obj) : Below w.heap.size w ((w.alloc o).alloc o2) := ((Below.refl _ _).alloc (Nat.le_refl _) o).alloc (by simp) o2
set_option maxHeartbeats 2000000 in
theorem hasSizes_any (f : Fc) (Af : Option Addr) (caf : Nat) (w : World) (hf : FvOk w f Af caf) :
    Calls Tryd.prog 32 #[fv f Af caf] w fun e w' => e = .returned (.bool (sizesP f)) ∧ Below w.heap.size w w' := by
  go_enter Tryd.func32, Tryd.ntmps32
  go_wp2
  all_goals
    go_ret
    exact ⟨retb (by unfold sizesP; first | (simp_all; done) | (rw [Bool.eq_iff_iff]; simp; omega) | (symm; rw [decide_eq_false_iff_not]; omega)), below1 _ _⟩
set_option maxHeartbeats 2000000 in
theorem hasMain_any (p : Pg) (A B D : Option Addr) (ca cb cd : Nat) (w : World) (hp : PgAt w p A B D ca cb cd) :
    Calls Tryd.prog 31 #[pv p A B D ca cb cd] w fun e w' => e = .returned (.bool (mainP p)) ∧ Below w.heap.size w w' := by
  have HB := below1 w (.cells #[.slice A p.funcs.length ca, .slice B p.globals.length cb, .slice D p.layouts.length cd, .int .i64 p.main] 26)
  by_cases h0 : 0 ≤ p.main
  · by_cases h1 : p.main < (p.funcs.length : Int)
    · obtain ⟨g, o, rfl, hr⟩ := hp.fs.at (by omega)
      have hh := (hr p.main.toNat (by omega)).below HB
      have hget := getD_at h0 h1
      obtain ⟨y, hy⟩ : ∃ y, p.funcs[p.main.toNat]'(by omega) = y := ⟨_, rfl⟩
      rw [hy] at hh hget
      have q1 := hh.c1
      have hfin : mainP p = (y.params == 0) := by
        unfold mainP; rw [hget, Bool.eq_iff_iff]; simp [h0, h1, C.len]
      rw [hfin]
      clear hh hy hget hr hfin
      go_enter Tryd.func31, Tryd.ntmps31
      go_wp2
      all_goals
        go_ret
        exact ⟨rfl, below1 _ _⟩
    · have hfin : mainP p = false := by unfold mainP; simp [C.len]; omega
      have h2 : decide (p.main < (p.funcs.length : Int)) = false := by simp; omega
      rw [hfin]
      go_enter Tryd.func31, Tryd.ntmps31
      go_wp2
      go_ret
      exact ⟨rfl, below1 _ _⟩
  · have hfin : mainP p = false := by unfold mainP; simp [C.len]; omega
    have h2 : decide (0 ≤ p.main) = false := by simp; omega
    rw [hfin]
    go_enter Tryd.func31, Tryd.ntmps31
    go_wp2
    go_ret
    exact ⟨rfl, below1 _ _⟩
theorem last_getD {l : List In} (h : 0 < l.length) : l.getLast?.getD default = l[l.length - 1]'(by omega) := by
  rw [List.getLast?_eq_some_getLast (List.length_pos_iff.1 h), Option.getD_some, List.getLast_eq_getElem]
set_option maxHeartbeats 2000000 in
theorem hasEnd_any (f : Fc) (Af : Option Addr) (caf : Nat) (w : World) (hf : FvOk w f Af caf) (h0 : 0 < f.code.length) :
    Calls Tryd.prog 33 #[fv f Af caf] w fun e w' => e = .returned (.bool (endP f)) ∧ Below w.heap.size w w' := by
  have HB := below1 w (.cells #[.string f.name, .int .i64 f.params, .int .i64 f.regs, .slice Af f.code.length caf] 37)
  obtain ⟨g, o, rfl, hr⟩ := hf.row.at h0
  have hm := hf.k.2
  unfold maxLen at hm
  have hh := (hr (f.code.length - 1) (by omega)).below HB
  obtain ⟨y, hy⟩ : ∃ y, f.code[f.code.length - 1]'(by omega) = y := ⟨_, rfl⟩
  have hfin : endP f = decide (y.op = 30 ∨ y.op = 16) := by unfold endP; rw [last_getD h0, hy]
  rw [hy] at hh
  have q0 := hh.c0
  have HF := Lib.hid hfin
  have k0 : (0 : Int) ≤ (f.code.length : Int) - 1 := by omega
  have k1 : (f.code.length : Int) - 1 < (f.code.length : Int) := by omega
  clear hh hy hr hfin
  go_enter Tryd.func33, Tryd.ntmps33
  go_wp2
  all_goals
    go_ret
    exact ⟨retb (by rw [HF.out]; first | (simp_all; done) | (rw [Bool.eq_iff_iff]; simp; omega)), below1 _ _⟩
end Go.Proofs.YtekfhgldebhigaaDoor
