/-
  The walk of the specification's SameTypes at two rows of the same types.
-/
import Derived.Test.YtijhdlmnoinfiaaGreatDoorFN
import Derived.BigQuiet
set_option linter.all false
namespace Go.Proofs.YtijhdlmnoinfiaaGreatDoor
open Go.RowKit T T.Fo Ty

/-- A row of types without names. -/
def TRow (w : World) (A : Option Addr) (ks : List Int) : Prop := ks = [] ∨ ∃ g, A = some ⟨g, 0, none⟩ ∧ w.heap[g]? = some (.cells (tcs ks).toArray 24 (0, 0)) ∧ g < w.heap.size
theorem TRow.keep {w w' : World} {A : Option Addr} {ks : List Int} (h : TRow w A ks) (hb : Below w.heap.size w w') : TRow w' A ks := by
  rcases h with h | ⟨g, rfl, hg, hl⟩
  · exact .inl h
  · exact .inr ⟨g, rfl, (hb.block _ hl).trans hg, Nat.lt_of_lt_of_le hl hb.size⟩
set_option maxRecDepth 100000 in
theorem same0 (A B : Option Addr) (w : World) : Calls Tryz.prog 35 #[.slice A 0 0, .slice B 0 0] w fun e w' => e = .returned (.bool true) ∧ Below w.heap.size w w' := by
  go_enter Tryz.func35, Tryz.ntmps35
  go_wp2
  go_loop [5] (fun i => i = .int .i64 0) (fun _ => 0)
  case atStart => rfl
  case round =>
    obtain rfl := hrel
    go_wp2
    go_ret
    exact ⟨rfl, Below.refl _ _⟩
theorem row_cells {w : World} {g : Nat} {ks : List Int} (h : w.heap[g]? = some (.cells (tcs ks).toArray 24 (0, 0))) (i : Nat) (hi : i < ks.length) :
    w.cell? ⟨g, i * 2, none⟩ = some (.int .i64 ks[i]) ∧ w.cell? ⟨g, i * 2 + 1, none⟩ = some (.string ⟨#[]⟩) := by
  have hl : ∀ (ks : List Int) (i : Nat) (hi : i < ks.length), (tcs ks)[i * 2]? = some (.int .i64 ks[i]) ∧ (tcs ks)[i * 2 + 1]? = some (.string ⟨#[]⟩) := by
    intro ks
    induction ks with
    | nil => intro i hi; exact absurd hi (by simp)
    | cons a l ih =>
      intro i hi
      cases i with
      | zero => exact ⟨rfl, rfl⟩
      | succ j =>
        have := ih j (by simpa using hi)
        have e : tcs (a :: l) = .int .i64 a :: .string ⟨#[]⟩ :: tcs l := rfl
        rw [e, show (j + 1) * 2 = j * 2 + 1 + 1 by omega]
        exact ⟨this.1, this.2⟩
  have := hl ks i hi
  simp only [World.cell?, h]
  simpa using this
set_option maxRecDepth 100000 in
set_option maxHeartbeats 2000000 in
theorem same_n (a b : Nat) (ks : List Int) (w : World) (hl : ks.length ≤ 1000) (ha : w.heap[a]? = some (.cells (tcs ks).toArray 24 (0, 0))) (hb : w.heap[b]? = some (.cells (tcs ks).toArray 24 (0, 0))) : Calls Tryz.prog 35 #[.slice (some ⟨a, 0, none⟩) ks.length ks.length, .slice (some ⟨b, 0, none⟩) ks.length ks.length] w fun e w' => e = .returned (.bool true) ∧ Below w.heap.size w w' := by
  have HA := Lib.hid ha
  have HB := Lib.hid hb
  obtain ⟨n, hn⟩ : ∃ n, ks.length = n := ⟨_, rfl⟩
  have HN := Lib.hid hn
  rw [hn] at hl ⊢
  clear ha hb hn
  go_enter Tryz.func35, Tryz.ntmps35
  go_wp2
  go_loopw [5] (fun ix wr => ∃ i : Nat, ix = .int .i64 (i : Int) ∧ i ≤ n ∧ ∃ d, wr = w.drewN d) (fun ix _ => n - (intOf ix).toNat)
  case atStart => exact ⟨0, rfl, Nat.zero_le _, 0, rfl⟩
  case round =>
    obtain ⟨i, rfl, hi, d, rfl⟩ := hrel
    by_cases hlt : i < n
    · have hi' : i < ks.length := by rw [HN.out]; exact hlt
      obtain ⟨x, hx⟩ : ∃ x, ks[i] = x := ⟨_, rfl⟩
      have ca := row_cells HA.out i hi'
      have cb := row_cells HB.out i hi'
      rw [hx] at ca cb
      obtain ⟨a0, a1⟩ := ca
      obtain ⟨b0, b1⟩ := cb
      have hxx : (x != x) = false := by simp
      clear hx hi'
      have b1' : (0 : Int) ≤ i := by omega
      have b2 : (i : Int) < n := by omega
      go_wp2
      go_quiet (fail)
      go_wp2
      go_roundw
      case rel => exact ⟨i + 1, by go_num, by omega, d + nq, rfl⟩
      case measure => simp [intOf]; omega
    · obtain rfl : i = n := by omega
      go_wp2
      go_ret
      exact ⟨rfl, below_draws _ _ _⟩
end Go.Proofs.YtijhdlmnoinfiaaGreatDoor
