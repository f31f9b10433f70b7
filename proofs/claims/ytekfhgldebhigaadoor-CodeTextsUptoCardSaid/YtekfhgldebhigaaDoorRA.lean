/-
  The walks of the specification's Roles and Ints.
-/
import Derived.Test.YtekfhgldebhigaaDoorOB
import Derived.WalkKit
import Derived.WalkSpells
import Derived.WalkLawsBesides
import Derived.Deep.QuietTactic
import Derived.BigQuiet
import Derived.Lib.Hide
import Derived.Outline
set_option linter.all false
namespace Go.Proofs.YtekfhgldebhigaaDoor
open Go.RowKit C
/-- Only the tape has moved. -/
def Drawn (w w' : World) : Prop := ∃ n, w' = w.drewN n
theorem Drawn.refl (w : World) : Drawn w w := ⟨0, rfl⟩
theorem retd {a b : Bool} (h : a = b) : Ending.returned (.bool a) = .returned (.bool b) := by rw [h]
theorem bel_drewN {B : Nat} {a w : World} (h : Below B a w) (n : Nat) : Below B a (w.drewN n) := ⟨h.os, h.tape, h.output, h.size, h.block⟩
theorem below_drew (w : World) (n : Nat) : Below w.heap.size w (w.drewN n) := bel_drewN (Below.refl _ _) n
def txt (l : Bs) : ByteArray := ⟨l.toArray⟩
theorem ret_txt {a : ByteArray} {l : Bs} (h : a.data.toList = l) : Ending.returned (.string a) = .returned (.string (txt l)) := by
  subst h; rfl
set_option maxRecDepth 100000 in
set_option maxHeartbeats 8000000 in
theorem roles_any (op : Int) (w : World) : Calls Tryd.prog 26 #[.int .i64 op] w fun e w' => e = .returned (.string (txt (roles op))) ∧ w = w' := by
  go_enter Tryd.func26, Tryd.ntmps26
  go_wp2
  all_goals
    go_ret
    refine ⟨ret_txt ?_, rfl⟩
    first
      | (simp_all [roles]; done)
      | (simp_all [roles]; rw [if_neg (by omega), if_neg (by omega)])
set_option maxRecDepth 100000 in
set_option maxHeartbeats 2000000 in
theorem ints_any (A B : Option Addr) (ca cb : Nat) (l m : List Int) (w : World) (hl : l.length ≤ maxLen) (hm : m.length ≤ maxLen) (h1 : Row 1 (IntAt w) A l) (h2 : Row 1 (IntAt w) B m) :
    Calls Tryd.prog 12 #[.slice A l.length ca, .slice B m.length cb] w fun e w' => e = .returned (.bool (decide (l = m))) ∧ Below w.heap.size w w' := by
  by_cases hne : l.length = m.length
  · rcases Nat.eq_zero_or_pos l.length with h0 | h0
    · have e1 : l = [] := List.length_eq_zero_iff.1 h0
      have e2 : m = [] := List.length_eq_zero_iff.1 (by omega)
      subst e1 e2
      go_enter Tryd.func12, Tryd.ntmps12
      go_wp2
      go_loop [5] (fun i => i = .int .i64 0) (fun _ => 0)
      case atStart => rfl
      case round =>
        obtain rfl := hrel
        go_wp2
        go_ret
        exact ⟨rfl, Below.refl _ _⟩
    · obtain ⟨g, o, rfl, hA⟩ := h1.at h0
      obtain ⟨g', o', rfl, hB⟩ := h2.at (by omega)
      have HA := Lib.hid hA
      have HB := Lib.hid hB
      unfold maxLen at hl
      have hne2 : ((l.length : Int) != (m.length : Int)) = false := by simp; omega
      clear h1 h2 hA hB hm
      go_enter Tryd.func12, Tryd.ntmps12
      go_wp2
      go_loopw [5] (fun i wr => ∃ k : Nat, k ≤ l.length ∧ i = .int .i64 k ∧ l.take k = m.take k ∧ Drawn w wr) (fun i _ => l.length - (intOf i).toNat)
      case atStart => exact ⟨0, Nat.zero_le _, rfl, rfl, Drawn.refl _⟩
      case round =>
        obtain ⟨k, hk, rfl, he, hd⟩ := hrel
        have HE := Lib.hid he
        clear he
        by_cases hkl : k < l.length
        · obtain ⟨n, rfl⟩ := hd
          have a0 := (HA.out k hkl).c0
          have b0 := (HB.out k (by omega)).c0
          have hk0 : (0 : Int) ≤ (k : Int) := by omega
          have hk1 : (k : Int) < (l.length : Int) := by omega
          have hk2 : (k : Int) < (m.length : Int) := by omega
          obtain ⟨x, hx⟩ : ∃ x, l[k] = x := ⟨_, rfl⟩
          obtain ⟨y, hy⟩ : ∃ y, m[k]'(by omega) = y := ⟨_, rfl⟩
          rw [hx, Nat.mul_one] at a0
          rw [hy, Nat.mul_one] at b0
          have HX := Lib.hid hx
          have HY := Lib.hid hy
          clear hx hy
          go_wp2_with fail
          go_quiet (fail)
          by_cases hxy : x = y
          · have hne3 : ((x : Int) != y) = false := by simp [hxy]
            go_wp2
            go_roundw
            case rel => exact ⟨k + 1, by omega, by go_num, by rw [List.take_succ_eq_append_getElem hkl, List.take_succ_eq_append_getElem (by omega), HE.out, HX.out, HY.out, hxy], ⟨_, rfl⟩⟩
            case measure => simp [intOf]; omega
          · have hne3 : ((x : Int) != y) = true := by simp [hxy]
            go_wp2
            go_ret
            exact ⟨retd (decide_eq_false fun e => hxy (by rw [← HX.out, ← HY.out]; simp only [e])).symm, bel_drewN (below_drew _ _) _⟩
        · obtain rfl : k = l.length := by omega
          obtain ⟨n, rfl⟩ := hd
          go_wp2
          go_ret
          exact ⟨retd (decide_eq_true (by have := HE.out; rw [List.take_length, hne, List.take_length] at this; exact this)).symm, below_drew _ _⟩
  · have hne2 : ((l.length : Int) != (m.length : Int)) = true := by simp; omega
    have hd : decide (l = m) = false := by simp; intro e; exact hne (by rw [e])
    rw [hd]
    go_enter Tryd.func12, Tryd.ntmps12
    go_wp2
    go_ret
    exact ⟨rfl, Below.refl _ _⟩
end Go.Proofs.YtekfhgldebhigaaDoor
