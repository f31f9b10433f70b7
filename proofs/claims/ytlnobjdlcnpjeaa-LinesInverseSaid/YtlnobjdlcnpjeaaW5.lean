/-
  The walk of slices.BinarySearch at []int.
-/
import Derived.Test.YtlnobjdlcnpjeaaW3
namespace Go.Proofs.Ytlnobjdlcnpjeaa
open Go.RowKit M

set_option maxRecDepth 100000 in
theorem nan28 (x : Int) (w : World) : Calls Try.prog 28 #[.int .i64 x] w fun e w' => e = .returned (.bool false) ∧ w = w' := by
  have h : (x != x) = false := by simp
  go_enter Try.func28, Try.ntmps28
  go_wp2
  go_ret
  exact ⟨rfl, rfl⟩

set_option maxRecDepth 100000 in
theorem nan27 (x : Int) (w : World) : Calls Try.prog 27 #[.int .i64 x] w fun e w' => e = .returned (.bool false) ∧ w = w' := by
  have h : (x != x) = false := by simp
  go_enter Try.func27, Try.ntmps27
  go_wp2
  go_ret
  exact ⟨rfl, rfl⟩

set_option maxRecDepth 100000 in
theorem less_yes (x y : Int) (w : World) (h : x < y) : Calls Try.prog 26 #[.int .i64 x, .int .i64 y] w fun e w' => e = .returned (.bool true) ∧ w = w' := by
  have h1 : decide (x < y) = true := by simpa using h
  go_enter Try.func26, Try.ntmps26
  go_wp2_with (go_at_call 28; refine (nan28 _ _).mono ?_; rintro e w' ⟨rfl, rfl⟩)
  go_ret
  exact ⟨rfl, rfl⟩

set_option maxRecDepth 100000 in
theorem less_no (x y : Int) (w : World) (h : ¬ x < y) : Calls Try.prog 26 #[.int .i64 x, .int .i64 y] w fun e w' => e = .returned (.bool false) ∧ w = w' := by
  have h1 : decide (x < y) = false := by simpa using h
  go_enter Try.func26, Try.ntmps26
  go_wp2_with (go_at_call 28; refine (nan28 _ _).mono ?_; rintro e w' ⟨rfl, rfl⟩)
  go_ret
  exact ⟨rfl, rfl⟩

theorem ret_found {k : Int} {f : Bool} (h : f = true) : Ending.returned (.tuple #[.int .i64 k, .bool true]) = .returned (.tuple #[.int .i64 k, .bool f]) := by rw [h]
theorem ret_miss {k : Int} {f : Bool} (h : ¬ f = true) : Ending.returned (.tuple #[.int .i64 k, .bool false]) = .returned (.tuple #[.int .i64 k, .bool f]) := by
  cases f
  · rfl
  · exact absurd rfl h

set_option maxRecDepth 100000 in
set_option maxHeartbeats 800000 in
theorem search_any (b off n cap k : Nat) (zs : List Int) (t : Int) (w : World) (hb : (n : Int) ≤ 1000000) (hc : ∀ i, i < n → w.cell? ⟨b, off + i, none⟩ = some (.int .i64 (at0 zs i)))
    (hk : k ≤ n) (h1 : ∀ i, i < k → at0 zs i < t) (h2 : ∀ i, k ≤ i → i < n → t ≤ at0 zs i) (f : Bool) (hf : f = true ↔ k < n ∧ at0 zs k = t) :
    Calls Try.prog 25 #[.slice (some ⟨b, off, none⟩) n cap, .int .i64 t] w fun e w' => e = .returned (.tuple #[.int .i64 k, .bool f]) ∧ w = w' := by
  have HC := Lib.hid hc
  have H1 := Lib.hid h1
  have H2 := Lib.hid h2
  have HF := Lib.hid hf
  clear hc h1 h2 hf
  go_enter Try.func25, Try.ntmps25
  go_wp2
  go_loop [7, 8] (fun lo hi => ∃ l h : Nat, l ≤ k ∧ k ≤ h ∧ h ≤ n ∧ lo = .int .i64 l ∧ hi = .int .i64 h)
    (fun lo hi => (intOf hi).toNat - (intOf lo).toNat)
  case atStart => exact ⟨0, n, by omega, by omega, by omega, rfl, rfl⟩
  case round =>
    obtain ⟨l, h, hl, hh, hn, rfl, rfl⟩ := hrel
    by_cases hlh : l < h
    · have hcm : w.cell? ⟨b, off + (l + h) / 2, none⟩ = some (.int .i64 (at0 zs ((l + h) / 2))) := HC.out _ (by omega)
      by_cases hm : (l + h) / 2 < k
      · have HM := Lib.hid (H1.out _ hm)
        go_wp2_with (go_at_call 26; refine (less_yes _ _ _ HM.out).mono ?_; rintro e w' ⟨rfl, rfl⟩)
        go_round
        case rel => exact ⟨(l + h) / 2 + 1, h, by omega, by omega, by omega, by go_num, rfl⟩
        case measure => simp only [intOf]; omega
      · have HM : Hid (¬ at0 zs ((l + h) / 2) < t) := Lib.hid (by have := H2.out ((l + h) / 2) (by omega) (by omega); omega)
        go_wp2_with (go_at_call 26; refine (less_no _ _ _ HM.out).mono ?_; rintro e w' ⟨rfl, rfl⟩)
        go_round
        case rel => exact ⟨l, (l + h) / 2, by omega, by omega, by omega, rfl, by go_num⟩
        case measure => simp only [intOf]; omega
    · obtain rfl : l = k := by omega
      by_cases hkn : l < n
      · have hck : w.cell? ⟨b, off + l, none⟩ = some (.int .i64 (at0 zs l)) := HC.out _ hkn
        by_cases he : at0 zs l = t
        · have he1 : (at0 zs l == t) = true := by simpa using he
          have HE := Lib.hid he
          clear he
          go_wp2_with (go_at_call 27; refine (nan27 _ _).mono ?_; rintro e w' ⟨rfl, rfl⟩)
          go_ret2
          exact ⟨ret_found (by rw [HF.out]; exact ⟨hkn, HE.out⟩), rfl⟩
        · have he1 : (at0 zs l == t) = false := by simpa using he
          have HE := Lib.hid he
          clear he
          go_wp2_with (go_at_call 27; refine (nan27 _ _).mono ?_; rintro e w' ⟨rfl, rfl⟩)
          go_ret2
          exact ⟨ret_miss (by rw [HF.out]; exact fun g => HE.out g.2), rfl⟩
      · have hd : decide ((l : Int) < (n : Int)) = false := by simp; omega
        go_wp2_with (go_at_call 27; refine (nan27 _ _).mono ?_; rintro e w' ⟨rfl, rfl⟩)
        go_ret2
        exact ⟨ret_miss (by rw [HF.out]; exact fun g => hkn g.1), rfl⟩
end Go.Proofs.Ytlnobjdlcnpjeaa
