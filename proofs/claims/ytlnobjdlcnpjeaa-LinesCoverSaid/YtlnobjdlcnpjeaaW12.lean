/-
  The walk of the specification's Same, at two tables that read alike.
-/
import Derived.Test.YtlnobjdlcnpjeaaW6
namespace Go.Proofs.Ytlnobjdlcnpjeaa
open Go.RowKit M

set_option maxRecDepth 100000 in
set_option maxHeartbeats 800000 in
theorem same_none (ao ao2 : Option Addr) (cap cap2 : Nat) (size : Int) (w : World) :
    Calls Try.prog 12 #[.agg #[.slice ao 0 cap, .int .i64 size], .agg #[.slice ao2 0 cap2, .int .i64 size]] w fun e w' => e = .returned (.bool true) ∧ Below w.heap.size w w' := by
  have hd : (size != size) = false := by simp
  go_enter Try.func12, Try.ntmps12
  go_wp2
  refine wp_loop_rounds 1 ?_
  rw [rounds_succ]
  go_wp2
  go_ret
  exact ⟨rfl, ((Below.refl _ _).alloc (Nat.le_refl _) _).alloc (by simp) _⟩

set_option maxRecDepth 100000 in
set_option maxHeartbeats 800000 in
theorem same_some (b off b2 off2 n cap cap2 : Nat) (zs : List Int) (size : Int) (w : World) (hb : (n : Int) ≤ 1000000) (hlt : b < w.heap.size) (hlt2 : b2 < w.heap.size)
    (hc : ∀ i, i < n → w.cell? ⟨b, off + i, none⟩ = some (.int .i64 (at0 zs i))) (hc2 : ∀ i, i < n → w.cell? ⟨b2, off2 + i, none⟩ = some (.int .i64 (at0 zs i))) :
    Calls Try.prog 12 #[.agg #[.slice (some ⟨b, off, none⟩) n cap, .int .i64 size], .agg #[.slice (some ⟨b2, off2, none⟩) n cap2, .int .i64 size]] w fun e w' => e = .returned (.bool true) ∧ Below w.heap.size w w' := by
  have hd : (size != size) = false := by simp
  have hd2 : ((n : Int) != (n : Int)) = false := by simp
  have HC := Lib.hid hc
  have HC2 := Lib.hid hc2
  clear hc hc2
  go_enter Try.func12, Try.ntmps12
  go_wp2
  go_loopw [5] (fun i wr => ∃ k : Nat, k ≤ n ∧ i = .int .i64 k ∧ wr.cell? ⟨w.heap.size, 0, none⟩ = some (.slice (some ⟨b, off, none⟩) n cap) ∧ wr.cell? ⟨w.heap.size + 1, 0, none⟩ = some (.slice (some ⟨b2, off2, none⟩) n cap2) ∧ Below w.heap.size w wr)
    (fun i _ => n - (intOf i).toNat)
  case atStart => exact ⟨0, by omega, rfl, by simp, by simp, ((Below.refl _ _).alloc (Nat.le_refl _) _).alloc (by simp) _⟩
  case round =>
    obtain ⟨k, hk, rfl, hs0, hs1, hbl⟩ := hrel
    by_cases hlt2 : k < n
    · have hc1 : wr.cell? ⟨b, off + k, none⟩ = some (.int .i64 (at0 zs k)) := (hbl.cell (by exact hlt)).trans (HC.out k (by omega))
      have hc2 : wr.cell? ⟨b2, off2 + k, none⟩ = some (.int .i64 (at0 zs k)) := (hbl.cell (by assumption)).trans (HC2.out k (by omega))
      have hb2 : (0 : Int) ≤ (k : Int) := by omega
      have hb3 : (k : Int) < (n : Int) := by omega
      have hq : (at0 zs k != at0 zs k) = false := by simp
      go_wp2_with fail
      go_quiet (fail)
      go_wp2
      go_roundw
      case rel => exact ⟨k + 1, by omega, by go_num, hs0, hs1, hbl.trans (below_draws _ _ _)⟩
      case measure => simp [intOf]; omega
    · obtain rfl : k = n := by omega
      go_wp2
      go_ret
      exact ⟨rfl, hbl⟩

/-- Same, at two tables that read alike. -/
theorem same_any (ao ao2 : Option Addr) (n cap cap2 : Nat) (zs : List Int) (size : Int) (w : World) (h : Row w ao n zs) (h2 : Row w ao2 n zs) :
    Calls Try.prog 12 #[.agg #[.slice ao n cap, .int .i64 size], .agg #[.slice ao2 n cap2, .int .i64 size]] w fun e w' => e = .returned (.bool true) ∧ Below w.heap.size w w' := by
  obtain ⟨_, hb, h3⟩ := h
  obtain ⟨_, _, h4⟩ := h2
  by_cases hn : n = 0
  · subst hn; exact same_none ao ao2 cap cap2 size w
  · rcases h3 with h3 | ⟨b, off, rfl, hlt, hc⟩
    · exact absurd h3 hn
    · rcases h4 with h4 | ⟨b2, off2, rfl, hlt2, hc2⟩
      · exact absurd h4 hn
      · exact same_some b off b2 off2 n cap cap2 zs size w hb hlt hlt2 hc hc2
end Go.Proofs.Ytlnobjdlcnpjeaa
