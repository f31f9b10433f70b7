/-
  Plain mathematics: what Scan and Comments answer.
-/
import Derived.Test.YtaalgkcbknlccaaDoorMath2
namespace Go.Proofs.YtaalgkcbknlccaaDoor.M
set_option linter.unusedVariables false

/-- A property of every step of the scanner is one of its end. -/
theorem toks_ind {P : Bs → Nat → Bool → List Tok × Nat × Nat → Prop}
    (h0 : ∀ a ins, P [] a ins ([], 0, 0))
    (h1 : ∀ c r a ins, sep ins c.toNat = true → P r (a + 1) ins (toks r (a + 1) ins) → P (c :: r) a ins (toks r (a + 1) ins))
    (h2 : ∀ c r a ins, sep ins c.toNat = false → c.toNat = 10 → P r (a + 1) false (toks r (a + 1) false) → P (c :: r) a ins (⟨4, [59], a⟩ :: (toks r (a + 1) false).1, (toks r (a + 1) false).2))
    (h3 : ∀ c r a ins, sep ins c.toNat = false → c.toNat ≠ 10 → (nx (c :: r)).2.2 ≠ 0 → P (c :: r) a ins ([], a, (nx (c :: r)).2.2))
    (h4 : ∀ c r a ins k n, sep ins c.toNat = false → c.toNat ≠ 10 → nx (c :: r) = (k, n, 0) → 1 ≤ n → n ≤ (c :: r).length →
      P ((c :: r).drop n) (a + n) (if k = 5 then ins else endB k ((c :: r).take n)) (toks ((c :: r).drop n) (a + n) (if k = 5 then ins else endB k ((c :: r).take n))) →
      P (c :: r) a ins (⟨k, (c :: r).take n, a⟩ :: (toks ((c :: r).drop n) (a + n) (if k = 5 then ins else endB k ((c :: r).take n))).1, (toks ((c :: r).drop n) (a + n) (if k = 5 then ins else endB k ((c :: r).take n))).2))
    : ∀ r a ins, P r a ins (toks r a ins) := by
  intro r
  generalize hm : r.length = m
  induction m using Nat.strongRecOn generalizing r with
  | ind m ih =>
    intro a ins
    cases r with
    | nil => exact h0 a ins
    | cons c r =>
      simp at hm
      cases hs : sep ins c.toNat with
      | true => rw [toks_sep hs]; exact h1 c r a ins hs (ih r.length (by omega) r rfl _ _)
      | false =>
        by_cases h10 : c.toNat = 10
        · rw [toks_feed hs h10]; exact h2 c r a ins hs h10 (ih r.length (by omega) r rfl _ _)
        · by_cases he : (nx (c :: r)).2.2 = 0
          · obtain ⟨k, n, hx⟩ : ∃ k n, nx (c :: r) = (k, n, 0) := ⟨_, _, by rw [← he]⟩
            have hb := nx_bd _ he
            rw [hx] at hb
            rw [toks_tok hs h10 hx]
            exact h4 c r a ins k n hs h10 hx hb.1 hb.2 (ih _ (by rw [List.length_drop]; simp at hb ⊢; omega) _ rfl _ _)
          · rw [toks_err hs h10 he]; exact h3 c r a ins hs h10 he

theorem toks_len (r : Bs) (a : Nat) (ins : Bool) : (toks r a ins).1.length ≤ r.length := by
  refine toks_ind (P := fun r _ _ x => x.1.length ≤ r.length) ?_ ?_ ?_ ?_ ?_ r a ins
  · intro a ins; simp
  · intro c r a ins _ h; simp at h ⊢; omega
  · intro c r a ins _ _ h; simp at h ⊢; omega
  · intro c r a ins _ _ _; simp
  · intro c r a ins k n _ _ _ h1 h2 h; simp at h h2 ⊢; omega

/-- All that the scanner answers about a text. -/
def scanR (l : Bs) : List Tok × Nat × Nat := if 20000 < l.length then ([], 0, 3) else scanAll l
def scanL (l : Bs) : List Tok := if (scanR l).2.2 = 0 then (scanR l).1.filter (fun t => !(t.k == 5)) else []
def scanA (l : Bs) : Nat := (scanR l).2.1
def scanE (l : Bs) : Nat := (scanR l).2.2
def comL (l : Bs) : List Tok := (scanR l).1.filter (fun t => t.k == 5)
theorem scanR_len (l : Bs) : (scanR l).1.length ≤ 20000 := by
  unfold scanR
  split
  · simp
  · have := toks_len l 0 false
    rw [scanAll_eq]; omega
theorem scanA_zero (l : Bs) (h : scanE l = 0) : scanA l = 0 := by
  unfold scanE scanA scanR at *
  split at h
  · simp at h
  · rename_i g
    rw [if_neg g]
    rw [scanAll_eq] at h ⊢
    revert h
    refine toks_ind (P := fun _ _ _ x => x.2.2 = 0 → x.2.1 = 0) ?_ ?_ ?_ ?_ ?_ l 0 false
    · intro a ins _; rfl
    · intro c r a ins _ h; exact h
    · intro c r a ins _ _ h; exact h
    · intro c r a ins _ _ h h2; exact absurd h2 h
    · intro c r a ins k n _ _ _ _ _ h; exact h
end Go.Proofs.YtaalgkcbknlccaaDoor.M
