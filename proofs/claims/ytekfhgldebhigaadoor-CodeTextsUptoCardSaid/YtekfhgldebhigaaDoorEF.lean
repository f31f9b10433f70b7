/-
  The walks of slices.Equal at integers, instructions and variables, of slices.EqualFunc, and of the program's Equal.
-/
import Derived.Test.YtekfhgldebhigaaDoorEE
set_option linter.all false
namespace Go.Proofs.YtekfhgldebhigaaDoor
open Go.RowKit C
theorem ne_at {α : Type} {l m : List α} {k : Nat} (h1 : k < l.length) (h2 : k < m.length) (hne : ¬ l[k] = m[k]) : ¬ l = m := fun e => by subst e; exact hne rfl
theorem take_eq {α : Type} {l m : List α} {k : Nat} (h1 : k < l.length) (h2 : k < m.length) (he : l.take k = m.take k) (hk : l[k] = m[k]) : l.take (k + 1) = m.take (k + 1) := by
  rw [List.take_succ_eq_append_getElem h1, List.take_succ_eq_append_getElem h2, he, hk]
theorem take_all {α : Type} {l m : List α} (h : l.length = m.length) (he : l.take l.length = m.take l.length) : l = m := by
  rw [List.take_length, h, List.take_length] at he; exact he
theorem toList_inj {a b : ByteArray} (h : a.toList = b.toList) : a = b := by
  rw [ByteArray.toList_eq, ByteArray.toList_eq] at h; exact ByteArray.ext (Array.toList_inj.1 h)
set_option maxRecDepth 100000 in
set_option maxHeartbeats 4000000 in
theorem eqInt_any (A B : Option Addr) (ca cb : Nat) (l m : List Int) (w : World) (hl : l.length ≤ maxLen) (hm : m.length ≤ maxLen) (h1 : Row 1 (IntAt w) A l) (h2 : Row 1 (IntAt w) B m) :
    Calls Tryd.prog 45 #[.slice A l.length ca, .slice B m.length cb] w fun e w' => e = .returned (.bool (decide (l = m))) ∧ Below w.heap.size w w' := by
  have HA := Lib.hid h1
  have HB := Lib.hid h2
  unfold maxLen at hl hm
  clear h1 h2
  by_cases hne : l.length = m.length
  · have hne2 : ((l.length : Int) != (m.length : Int)) = false := by simp; omega
    go_enter Tryd.func45, Tryd.ntmps45
    go_wp2
    go_loopw [13] (fun i wr => ∃ k : Nat, k ≤ l.length ∧ i = .int .i64 k ∧ Hid (l.take k = m.take k) ∧ Hid (Below w.heap.size w wr)) (fun i _ => l.length - (intOf i).toNat)
    case atStart => exact ⟨0, Nat.zero_le _, rfl, Lib.hid rfl, Lib.hid (Below.refl _ _)⟩
    case round =>
      obtain ⟨k, hk, rfl, he, hd⟩ := hrel
      by_cases hkl : k < l.length
      · obtain ⟨g, o, rfl, hA⟩ := HA.out.at (by omega)
        obtain ⟨g', o', rfl, hB⟩ := HB.out.at (by omega)
        have hx := (hA k hkl).below hd.out
        have hy := (hB k (by omega)).below hd.out
        obtain ⟨x, hxe⟩ : ∃ x, l[k] = x := ⟨_, rfl⟩
        obtain ⟨y, hye⟩ : ∃ y, m[k]'(by omega) = y := ⟨_, rfl⟩
        rw [hxe, Nat.mul_one] at hx
        rw [hye, Nat.mul_one] at hy
        have a0 := hx.c0
        have b0 := hy.c0
        have HX := Lib.hid hxe
        have HY := Lib.hid hye
        have kk0 : (0 : Int) ≤ (k : Int) := by omega
        have kk1 : (k : Int) < (l.length : Int) := by omega
        have kk2 : (k : Int) < (m.length : Int) := by omega
        clear hx hy hxe hye hA hB
        by_cases h0 : x = y
        · have e0 : ((x : Int) == y) = true := by simp [h0]
          have g0 : ((x : Int) != y) = false := by simp [h0]
          have HE : Hid (l.take (k + 1) = m.take (k + 1)) := Lib.hid (take_eq hkl (by omega) he.out (by rw [HX.out, HY.out]; exact h0))
          clear h0
          go_wp2_with fail
          go_quiet (fail)
          go_wp2
          go_roundw
          case rel => exact ⟨k + 1, by omega, by go_num, HE, Lib.hid (bel_drewN hd.out _)⟩
          case measure => simp [intOf]; omega
        · have e0 : ((x : Int) == y) = false := by simp [h0]
          have g0 : ((x : Int) != y) = true := by simp [h0]
          have HE : Hid (decide (l = m) = false) := Lib.hid (decide_eq_false (ne_at hkl (by omega) (by rw [HX.out, HY.out]; intro e; exact h0 (by rw [e]))))
          clear h0
          go_wp2_with fail
          go_quiet (fail)
          go_wp2
          go_ret
          exact ⟨retb HE.out.symm, bel_drewN hd.out _⟩
      · obtain rfl : k = l.length := by omega
        have HE : Hid (decide (l = m) = true) := Lib.hid (decide_eq_true (take_all hne he.out))
        go_wp2
        go_ret
        exact ⟨retb HE.out.symm, hd.out⟩
  · have hne2 : ((l.length : Int) != (m.length : Int)) = true := by simp; omega
    have HE : Hid (decide (l = m) = false) := Lib.hid (decide_eq_false fun e => hne (by rw [e]))
    go_enter Tryd.func45, Tryd.ntmps45
    go_wp2
    go_ret
    exact ⟨retb HE.out.symm, Below.refl _ _⟩
set_option maxRecDepth 100000 in
set_option maxHeartbeats 4000000 in
theorem eqGl_any (A B : Option Addr) (ca cb : Nat) (l m : List Gl) (w : World) (hl : l.length ≤ maxLen) (hm : m.length ≤ maxLen) (h1 : Row 2 (GlAt w) A l) (h2 : Row 2 (GlAt w) B m) :
    Calls Tryd.prog 46 #[.slice A l.length ca, .slice B m.length cb] w fun e w' => e = .returned (.bool (decide (l = m))) ∧ Below w.heap.size w w' := by
  have HA := Lib.hid h1
  have HB := Lib.hid h2
  unfold maxLen at hl hm
  clear h1 h2
  by_cases hne : l.length = m.length
  · have hne2 : ((l.length : Int) != (m.length : Int)) = false := by simp; omega
    go_enter Tryd.func46, Tryd.ntmps46
    go_wp2
    go_loopw [13] (fun i wr => ∃ k : Nat, k ≤ l.length ∧ i = .int .i64 k ∧ Hid (l.take k = m.take k) ∧ Hid (Below w.heap.size w wr)) (fun i _ => l.length - (intOf i).toNat)
    case atStart => exact ⟨0, Nat.zero_le _, rfl, Lib.hid rfl, Lib.hid (Below.refl _ _)⟩
    case round =>
      obtain ⟨k, hk, rfl, he, hd⟩ := hrel
      by_cases hkl : k < l.length
      · obtain ⟨g, o, rfl, hA⟩ := HA.out.at (by omega)
        obtain ⟨g', o', rfl, hB⟩ := HB.out.at (by omega)
        have hx := (hA k hkl).below hd.out
        have hy := (hB k (by omega)).below hd.out
        obtain ⟨x, hxe⟩ : ∃ x, l[k] = x := ⟨_, rfl⟩
        obtain ⟨y, hye⟩ : ∃ y, m[k]'(by omega) = y := ⟨_, rfl⟩
        rw [hxe] at hx
        rw [hye] at hy
        have a0 := hx.c0
        have b0 := hy.c0
        have a1 := hx.c1
        have b1 := hy.c1
        have HX := Lib.hid hxe
        have HY := Lib.hid hye
        have kk0 : (0 : Int) ≤ (k : Int) := by omega
        have kk1 : (k : Int) < (l.length : Int) := by omega
        have kk2 : (k : Int) < (m.length : Int) := by omega
        clear hx hy hxe hye hA hB
        by_cases h0 : x.name = y.name
        · have e0 : (x.name.toList == y.name.toList) = true := by simp [h0]
          by_cases h1 : x.kind = y.kind
          · have e1 : ((x.kind : Int) == y.kind) = true := by simp [h1]
            have g1 : ((x.kind : Int) != y.kind) = false := by simp [h1]
            have HE : Hid (l.take (k + 1) = m.take (k + 1)) := Lib.hid (take_eq hkl (by omega) he.out (by rw [HX.out, HY.out]; exact (by cases x; cases y; simp_all)))
            clear h0 h1
            go_wp2_with fail
            go_quiet (fail)
            go_wp2
            go_roundw
            case rel => exact ⟨k + 1, by omega, by go_num, HE, Lib.hid (bel_drewN hd.out _)⟩
            case measure => simp [intOf]; omega
          · have e1 : ((x.kind : Int) == y.kind) = false := by simp [h1]
            have g1 : ((x.kind : Int) != y.kind) = true := by simp [h1]
            have HE : Hid (decide (l = m) = false) := Lib.hid (decide_eq_false (ne_at hkl (by omega) (by rw [HX.out, HY.out]; intro e; exact h1 (by rw [e]))))
            clear h0 h1
            go_wp2_with fail
            go_quiet (fail)
            go_wp2
            go_ret
            exact ⟨retb HE.out.symm, bel_drewN hd.out _⟩
        · have g0 : ¬ x.name.toList = y.name.toList := fun e => h0 (toList_inj e)
          have e0 : (x.name.toList == y.name.toList) = false := by simpa using g0
          have HE : Hid (decide (l = m) = false) := Lib.hid (decide_eq_false (ne_at hkl (by omega) (by rw [HX.out, HY.out]; intro e; exact h0 (by rw [e]))))
          clear h0
          go_wp2_with fail
          go_quiet (fail)
          go_wp2
          go_ret
          exact ⟨retb HE.out.symm, bel_drewN hd.out _⟩
      · obtain rfl : k = l.length := by omega
        have HE : Hid (decide (l = m) = true) := Lib.hid (decide_eq_true (take_all hne he.out))
        go_wp2
        go_ret
        exact ⟨retb HE.out.symm, hd.out⟩
  · have hne2 : ((l.length : Int) != (m.length : Int)) = true := by simp; omega
    have HE : Hid (decide (l = m) = false) := Lib.hid (decide_eq_false fun e => hne (by rw [e]))
    go_enter Tryd.func46, Tryd.ntmps46
    go_wp2
    go_ret
    exact ⟨retb HE.out.symm, Below.refl _ _⟩
set_option maxRecDepth 100000 in
set_option maxHeartbeats 4000000 in
theorem eqIn_any (A B : Option Addr) (ca cb : Nat) (l m : List In) (w : World) (hl : l.length ≤ maxLen) (hm : m.length ≤ maxLen) (h1 : Row 5 (InAt w) A l) (h2 : Row 5 (InAt w) B m) :
    Calls Tryd.prog 43 #[.slice A l.length ca, .slice B m.length cb] w fun e w' => e = .returned (.bool (decide (l = m))) ∧ Below w.heap.size w w' := by
  have HA := Lib.hid h1
  have HB := Lib.hid h2
  unfold maxLen at hl hm
  clear h1 h2
  by_cases hne : l.length = m.length
  · have hne2 : ((l.length : Int) != (m.length : Int)) = false := by simp; omega
    go_enter Tryd.func43, Tryd.ntmps43
    go_wp2
    go_loopw [13] (fun i wr => ∃ k : Nat, k ≤ l.length ∧ i = .int .i64 k ∧ Hid (l.take k = m.take k) ∧ Hid (Below w.heap.size w wr)) (fun i _ => l.length - (intOf i).toNat)
    case atStart => exact ⟨0, Nat.zero_le _, rfl, Lib.hid rfl, Lib.hid (Below.refl _ _)⟩
    case round =>
      obtain ⟨k, hk, rfl, he, hd⟩ := hrel
      by_cases hkl : k < l.length
      · obtain ⟨g, o, rfl, hA⟩ := HA.out.at (by omega)
        obtain ⟨g', o', rfl, hB⟩ := HB.out.at (by omega)
        have hx := (hA k hkl).below hd.out
        have hy := (hB k (by omega)).below hd.out
        obtain ⟨x, hxe⟩ : ∃ x, l[k] = x := ⟨_, rfl⟩
        obtain ⟨y, hye⟩ : ∃ y, m[k]'(by omega) = y := ⟨_, rfl⟩
        rw [hxe] at hx
        rw [hye] at hy
        have a0 := hx.c0
        have b0 := hy.c0
        have a1 := hx.c1
        have b1 := hy.c1
        have a2 := hx.c2
        have b2 := hy.c2
        have a3 := hx.c3
        have b3 := hy.c3
        have a4 := hx.c4
        have b4 := hy.c4
        have HX := Lib.hid hxe
        have HY := Lib.hid hye
        have kk0 : (0 : Int) ≤ (k : Int) := by omega
        have kk1 : (k : Int) < (l.length : Int) := by omega
        have kk2 : (k : Int) < (m.length : Int) := by omega
        clear hx hy hxe hye hA hB
        by_cases h0 : x.op = y.op
        · have e0 : ((x.op : Int) == y.op) = true := by simp [h0]
          have g0 : ((x.op : Int) != y.op) = false := by simp [h0]
          by_cases h1 : x.a = y.a
          · have e1 : ((x.a : Int) == y.a) = true := by simp [h1]
            have g1 : ((x.a : Int) != y.a) = false := by simp [h1]
            by_cases h2 : x.b = y.b
            · have e2 : ((x.b : Int) == y.b) = true := by simp [h2]
              have g2 : ((x.b : Int) != y.b) = false := by simp [h2]
              by_cases h3 : x.c = y.c
              · have e3 : ((x.c : Int) == y.c) = true := by simp [h3]
                have g3 : ((x.c : Int) != y.c) = false := by simp [h3]
                by_cases h4 : x.at' = y.at'
                · have e4 : ((x.at' : Int) == y.at') = true := by simp [h4]
                  have g4 : ((x.at' : Int) != y.at') = false := by simp [h4]
                  have HE : Hid (l.take (k + 1) = m.take (k + 1)) := Lib.hid (take_eq hkl (by omega) he.out (by rw [HX.out, HY.out]; exact (by cases x; cases y; simp_all)))
                  clear h0 h1 h2 h3 h4
                  go_wp2_with fail
                  go_quiet (fail)
                  go_wp2
                  go_roundw
                  case rel => exact ⟨k + 1, by omega, by go_num, HE, Lib.hid (bel_drewN hd.out _)⟩
                  case measure => simp [intOf]; omega
                · have e4 : ((x.at' : Int) == y.at') = false := by simp [h4]
                  have g4 : ((x.at' : Int) != y.at') = true := by simp [h4]
                  have HE : Hid (decide (l = m) = false) := Lib.hid (decide_eq_false (ne_at hkl (by omega) (by rw [HX.out, HY.out]; intro e; exact h4 (by rw [e]))))
                  clear h0 h1 h2 h3 h4
                  go_wp2_with fail
                  go_quiet (fail)
                  go_wp2
                  go_ret
                  exact ⟨retb HE.out.symm, bel_drewN hd.out _⟩
              · have e3 : ((x.c : Int) == y.c) = false := by simp [h3]
                have g3 : ((x.c : Int) != y.c) = true := by simp [h3]
                have HE : Hid (decide (l = m) = false) := Lib.hid (decide_eq_false (ne_at hkl (by omega) (by rw [HX.out, HY.out]; intro e; exact h3 (by rw [e]))))
                clear h0 h1 h2 h3
                go_wp2_with fail
                go_quiet (fail)
                go_wp2
                go_ret
                exact ⟨retb HE.out.symm, bel_drewN hd.out _⟩
            · have e2 : ((x.b : Int) == y.b) = false := by simp [h2]
              have g2 : ((x.b : Int) != y.b) = true := by simp [h2]
              have HE : Hid (decide (l = m) = false) := Lib.hid (decide_eq_false (ne_at hkl (by omega) (by rw [HX.out, HY.out]; intro e; exact h2 (by rw [e]))))
              clear h0 h1 h2
              go_wp2_with fail
              go_quiet (fail)
              go_wp2
              go_ret
              exact ⟨retb HE.out.symm, bel_drewN hd.out _⟩
          · have e1 : ((x.a : Int) == y.a) = false := by simp [h1]
            have g1 : ((x.a : Int) != y.a) = true := by simp [h1]
            have HE : Hid (decide (l = m) = false) := Lib.hid (decide_eq_false (ne_at hkl (by omega) (by rw [HX.out, HY.out]; intro e; exact h1 (by rw [e]))))
            clear h0 h1
            go_wp2_with fail
            go_quiet (fail)
            go_wp2
            go_ret
            exact ⟨retb HE.out.symm, bel_drewN hd.out _⟩
        · have e0 : ((x.op : Int) == y.op) = false := by simp [h0]
          have g0 : ((x.op : Int) != y.op) = true := by simp [h0]
          have HE : Hid (decide (l = m) = false) := Lib.hid (decide_eq_false (ne_at hkl (by omega) (by rw [HX.out, HY.out]; intro e; exact h0 (by rw [e]))))
          clear h0
          go_wp2_with fail
          go_quiet (fail)
          go_wp2
          go_ret
          exact ⟨retb HE.out.symm, bel_drewN hd.out _⟩
      · obtain rfl : k = l.length := by omega
        have HE : Hid (decide (l = m) = true) := Lib.hid (decide_eq_true (take_all hne he.out))
        go_wp2
        go_ret
        exact ⟨retb HE.out.symm, hd.out⟩
  · have hne2 : ((l.length : Int) != (m.length : Int)) = true := by simp; omega
    have HE : Hid (decide (l = m) = false) := Lib.hid (decide_eq_false fun e => hne (by rw [e]))
    go_enter Tryd.func43, Tryd.ntmps43
    go_wp2
    go_ret
    exact ⟨retb HE.out.symm, Below.refl _ _⟩
end Go.Proofs.YtekfhgldebhigaaDoor
