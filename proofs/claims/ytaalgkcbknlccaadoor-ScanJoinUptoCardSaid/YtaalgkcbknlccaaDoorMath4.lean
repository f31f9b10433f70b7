/-
  Plain mathematics: bounds on the value of digits.
-/
import Derived.Test.YtaalgkcbknlccaaDoorMath3
namespace Go.Proofs.YtaalgkcbknlccaaDoor.M
set_option linter.unusedVariables false

theorem digit_bd {c : UInt8} (h : isD c.toNat = true) : 48 ≤ c.toNat ∧ c.toNat ≤ 57 := by unfold isD at h; simpa using h
theorem valF_lt (t : Bs) : ∀ acc, (∀ c ∈ t, isD c.toNat = true) → valF acc t < (acc + 1) * 10 ^ t.length := by
  induction t with
  | nil => intro acc _; unfold valF; simp
  | cons c t ih =>
    intro acc hd
    have hc := digit_bd (hd c (List.mem_cons_self ..))
    have := ih (10 * acc + (c.toNat - 48)) (fun x hx => hd x (List.mem_cons_of_mem _ hx))
    rw [valF_cons, List.length_cons, Nat.pow_succ]
    have h1 : (10 * acc + (c.toNat - 48) + 1) ≤ (acc + 1) * 10 := by omega
    calc valF (10 * acc + (c.toNat - 48)) t < (10 * acc + (c.toNat - 48) + 1) * 10 ^ t.length := this
      _ ≤ ((acc + 1) * 10) * 10 ^ t.length := Nat.mul_le_mul_right _ h1
      _ = (acc + 1) * (10 ^ t.length * 10) := by rw [Nat.mul_assoc, Nat.mul_comm 10]
theorem valF_low (t : Bs) : ∀ acc, acc * 10 ^ t.length ≤ valF acc t := by
  induction t with
  | nil => intro acc; unfold valF; simp
  | cons c t ih =>
    intro acc
    have := ih (10 * acc + (c.toNat - 48))
    rw [valF_cons, List.length_cons, Nat.pow_succ]
    calc acc * (10 ^ t.length * 10) = (10 * acc) * 10 ^ t.length := by rw [Nat.mul_comm (10 ^ t.length), ← Nat.mul_assoc, Nat.mul_comm acc]
      _ ≤ (10 * acc + (c.toNat - 48)) * 10 ^ t.length := Nat.mul_le_mul_right _ (by omega)
      _ ≤ _ := this

theorem num_long (t : Bs) (hd : ∀ c ∈ t, isD c.toNat = true) (hl : 19 < t.length) : numOk t = false := by
  cases t with
  | nil => simp at hl
  | cons c t =>
    have hc := digit_bd (hd c (List.mem_cons_self ..))
    unfold numOk
    cases hlead : lead (c :: t) with
    | true => simp
    | false =>
      have h48 : c.toNat ≠ 48 := by
        intro e
        have e2 : c = 48 := UInt8.toNat_inj.1 e
        subst e2
        have g : lead (48 :: t) = true := by
          unfold lead
          rw [decide_eq_true (by omega : 1 < (48 :: t : Bs).length)]
          rfl
        rw [g] at hlead
        cases hlead
      have h1 := valF_low t (10 * 0 + (c.toNat - 48))
      have h2 : val (c :: t) = valF (10 * 0 + (c.toNat - 48)) t := rfl
      simp at hl
      have h3 : 10 ^ 19 ≤ 10 ^ t.length := Nat.pow_le_pow_right (by omega) (by omega)
      have h4 : 1 * 10 ^ t.length ≤ (10 * 0 + (c.toNat - 48)) * 10 ^ t.length := Nat.mul_le_mul_right _ (by omega)
      have h5 : (10 : Nat) ^ 19 = 10000000000000000000 := by decide
      have : ¬ val (c :: t) < 9223372036854775808 := by rw [h2]; omega
      simp [this]

theorem num_zero {t : Bs} (h1 : 1 < t.length) (h2 : t.head? = some 48) : numOk t = false := by
  unfold numOk lead
  simp [h1, h2]
theorem num_else {t : Bs} (h : ¬ (1 < t.length ∧ t.head? = some 48)) : numOk t = decide (val t < 9223372036854775808) := by
  unfold numOk lead
  have : (decide (1 < t.length) && (t.head? == some 48)) = false := by
    rw [← Bool.not_eq_true]; intro g; apply h; simpa using g
  rw [this]; simp

/-- One digit more. -/
theorem valF_take (t : Bs) (k : Nat) (hk : k < t.length) : valF 0 (t.take (k + 1)) = 10 * valF 0 (t.take k) + (t[k].toNat - 48) := by
  rw [List.take_succ_eq_append_getElem hk]
  unfold valF
  rw [List.foldl_append]
  rfl
theorem valF_bd (t : Bs) (hd : ∀ c ∈ t, isD c.toNat = true) (k : Nat) (hk : k ≤ 18) : valF 0 (t.take k) ≤ 999999999999999999 := by
  have := valF_lt (t.take k) 0 (fun c hc => hd c (List.mem_of_mem_take hc))
  have h2 : (10 : Nat) ^ (t.take k).length ≤ 10 ^ 18 := Nat.pow_le_pow_right (by omega) (by simp; omega)
  have h3 : (10 : Nat) ^ 18 = 1000000000000000000 := by decide
  omega
end Go.Proofs.YtaalgkcbknlccaaDoor.M
