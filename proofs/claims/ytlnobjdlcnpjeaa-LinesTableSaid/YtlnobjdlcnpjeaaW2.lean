/-
  The walk of the specification's Valid.
-/
import Derived.Test.YtlnobjdlcnpjeaaW1
namespace Go.Proofs.Ytlnobjdlcnpjeaa
open Go.RowKit M

set_option maxRecDepth 100000 in
set_option maxHeartbeats 800000 in
theorem rvalid_loop (b off n cap : Nat) (zs : List Int) (size : Int) (v : Bool) (w : World) (hn : 0 < n) (hz : zs.length = n) (hb : (n : Int) ≤ 1000000) (hlt : b < w.heap.size)
    (hc : ∀ i, i < n → w.cell? ⟨b, off + i, none⟩ = some (.int .i64 (at0 zs i))) (h0 : at0 zs 0 = 0) (hv : Tells v zs size) :
    Calls Try.prog 17 #[.agg #[.slice (some ⟨b, off, none⟩) n cap, .int .i64 size]] w fun e w' => e = .returned (.bool v) ∧ Below w.heap.size w w' := by
  have hc0 := hc 0 hn
  have hp : (0 : Int) < (n : Int) := by omega
  have hne : ((n : Int) == 0) = false := by simp; omega
  have hnz : (at0 zs 0 != 0) = false := by simp [h0]
  have H0 := Lib.hid h0
  have HZ := Lib.hid hz
  have HC := Lib.hid hc
  clear h0 hz hc
  simp only [Nat.add_zero] at hc0
  go_enter Try.func17, Try.ntmps17
  go_wp2_with fail
  go_loopw [3] (fun i wr => ∃ k : Nat, 1 ≤ k ∧ k ≤ n ∧ i = .int .i64 k ∧ (∀ j, j + 1 < k → at0 zs j < at0 zs (j + 1)) ∧ wr.cell? ⟨w.heap.size, 0, none⟩ = some (.slice (some ⟨b, off, none⟩) n cap) ∧ wr.cell? ⟨w.heap.size, 1, none⟩ = some (.int .i64 size) ∧ Below w.heap.size w wr)
    (fun i _ => n - (intOf i).toNat)
  case atStart => exact ⟨1, by omega, by omega, rfl, fun j hj => by omega, by simp, by simp, (Below.refl _ _).alloc (Nat.le_refl _) _⟩
  case round =>
    obtain ⟨k, hk1, hk, rfl, hinc, hs0, hs1, hbl⟩ := hrel
    have HI := Lib.hid hinc
    clear hinc
    have hc1 : wr.cell? ⟨b, off + (k - 1), none⟩ = some (.int .i64 (at0 zs (k - 1))) := (hbl.cell (by exact hlt)).trans (HC.out (k - 1) (by omega))
    by_cases hlt2 : k < n
    · have hc2 : wr.cell? ⟨b, off + k, none⟩ = some (.int .i64 (at0 zs k)) := (hbl.cell (by exact hlt)).trans (HC.out k (by omega))
      have hb1 : (0 : Int) ≤ (k : Int) - 1 := by omega
      have hb2 : (k : Int) - 1 < (n : Int) := by omega
      have hb3 : (k : Int) < (n : Int) := by omega
      go_wp2_with fail
      have hw1 : IntKind.i64.wrap ((k : Int) - 1) = (k : Int) - 1 := IntWalk.i64_in _ (by omega)
      have ht1 : ((k : Int) - 1).toNat = k - 1 := by omega
      by_cases hin : at0 zs (k - 1) < at0 zs k
      · have hd : decide (at0 zs k ≤ at0 zs (k - 1)) = false := by simp; omega
        go_quiet (fail)
        clear hw1 ht1
        go_wp2
        go_roundw
        case rel =>
          refine ⟨k + 1, by omega, by omega, by go_num, fun j hj => ?_, hs0, hs1, hbl.trans (below_draws _ _ _)⟩
          by_cases e : j + 1 = k
          · have e2 : j = k - 1 := by omega
            subst e2; rw [e]; exact hin
          · exact HI.out j (by omega)
        case measure => simp [intOf]; omega
      · have hd : decide (at0 zs k ≤ at0 zs (k - 1)) = true := by simp; omega
        go_quiet (fail)
        clear hw1 ht1
        go_wp2
        go_ret
        refine ⟨ret_bool (Tells.is_no hv fun ok => ?_), hbl.trans (below_draws _ _ _)⟩
        have := ok.lt (i := k - 1) (j := k) (by omega) (by rw [HZ.out]; omega)
        omega
    · have hlt3 : decide ((k : Int) < (n : Int)) = false := by simp; omega
      obtain rfl : k = n := by omega
      have hb1 : (0 : Int) ≤ (k : Int) - 1 := by omega
      have hb2 : (k : Int) - 1 < (k : Int) := by omega
      go_wp2_with fail
      have hw1 : IntKind.i64.wrap ((k : Int) - 1) = (k : Int) - 1 := IntWalk.i64_in _ (by omega)
      have ht1 : ((k : Int) - 1).toNat = k - 1 := by omega
      by_cases hl1 : at0 zs (k - 1) ≤ size
      · have hd1 : decide (at0 zs (k - 1) ≤ size) = true := by simp; omega
        by_cases hl2 : size ≤ 1099511627776
        · have hd2 : decide (size ≤ 1099511627776) = true := by simp; omega
          go_quiet (fail)
          clear hw1 ht1
          go_wp2
          go_ret
          refine ⟨ret_bool (Tells.is_yes hv ?_), hbl.trans (below_draws _ _ _)⟩
          have z := HZ.out
          exact ⟨by omega, H0.out, fun j hj => HI.out j (by omega), by rw [z]; exact hl1, hl2⟩
        · have hd2 : decide (size ≤ 1099511627776) = false := by simp; omega
          go_quiet (fail)
          clear hw1 ht1
          go_wp2
          go_ret
          refine ⟨ret_bool (Tells.is_no hv fun ok => by have := ok.2.2.2.2; omega), hbl.trans (below_draws _ _ _)⟩
      · have hd1 : decide (at0 zs (k - 1) ≤ size) = false := by simp; omega
        go_quiet (fail)
        clear hw1 ht1
        go_wp2
        go_ret
        refine ⟨ret_bool (Tells.is_no hv fun ok => ?_), hbl.trans (below_draws _ _ _)⟩
        have h4 := ok.2.2.2.1
        have z := HZ.out
        rw [z] at h4
        omega

set_option maxRecDepth 100000 in
theorem rvalid_none (ao : Option Addr) (cap : Nat) (size : Int) (w : World) :
    Calls Try.prog 17 #[.agg #[.slice ao 0 cap, .int .i64 size]] w fun e w' => e = .returned (.bool false) ∧ Below w.heap.size w w' := by
  go_enter Try.func17, Try.ntmps17
  go_wp2
  go_ret
  exact ⟨rfl, (Below.refl _ _).alloc (Nat.le_refl _) _⟩

set_option maxRecDepth 100000 in
theorem rvalid_zero (b off n cap : Nat) (z size : Int) (w : World) (hn : 0 < n) (hlt : b < w.heap.size)
    (hc0 : w.cell? ⟨b, off, none⟩ = some (.int .i64 z)) (hnz : (z != 0) = true) :
    Calls Try.prog 17 #[.agg #[.slice (some ⟨b, off, none⟩) n cap, .int .i64 size]] w fun e w' => e = .returned (.bool false) ∧ Below w.heap.size w w' := by
  have hp : (0 : Int) < (n : Int) := by omega
  have hne : ((n : Int) == 0) = false := by simp; omega
  go_enter Try.func17, Try.ntmps17
  go_wp2
  go_ret
  exact ⟨rfl, (Below.refl _ _).alloc (Nat.le_refl _) _⟩

/-- The specification's Valid, at every table. -/
theorem rvalid_any (ao : Option Addr) (n cap : Nat) (zs : List Int) (size : Int) (v : Bool) (w : World) (h : Row w ao n zs) (hv : Tells v zs size) :
    Calls Try.prog 17 #[.agg #[.slice ao n cap, .int .i64 size]] w fun e w' => e = .returned (.bool v) ∧ Below w.heap.size w w' := by
  obtain ⟨hz, hb, rfl | ⟨b, off, rfl, hlt, hc⟩⟩ := h
  · refine (rvalid_none ao cap size w).mono fun e w' ⟨he, hw⟩ => ⟨?_, hw⟩
    rw [he]
    exact ret_bool (Tells.is_no hv fun ok => by have := ok.1; omega)
  · by_cases hn : n = 0
    · subst hn
      refine (rvalid_none _ cap size w).mono fun e w' ⟨he, hw⟩ => ⟨?_, hw⟩
      rw [he]
      exact ret_bool (Tells.is_no hv fun ok => by have := ok.1; omega)
    · by_cases h0 : at0 zs 0 = 0
      · exact rvalid_loop b off n cap zs size v w (by omega) hz hb hlt hc h0 hv
      · refine (rvalid_zero b off n cap (at0 zs 0) size w (by omega) hlt (by simpa using hc 0 (by omega)) (by simp [h0])).mono fun e w' ⟨he, hw⟩ => ⟨?_, hw⟩
        rw [he]
        exact ret_bool (Tells.is_no hv fun ok => h0 ok.2.1)
end Go.Proofs.Ytlnobjdlcnpjeaa
