/-
  Plain mathematics: operators at the head of a text, the value of digits.
-/
import Derived.Test.YtaalgkcbknlccaaDoorMath
namespace Go.Proofs.YtaalgkcbknlccaaDoor.M
set_option linter.unusedVariables false

def opArr : List Bs := ops2 ++ ops1
def pre (r p : Bs) : Bool := p.isPrefixOf r
theorem pre_iff (r p : Bs) : pre r p = true ↔ r.take p.length = p := by
  unfold pre
  rw [List.isPrefixOf_iff_prefix, List.prefix_iff_eq_take]
  exact eq_comm

theorem len2 (j : Nat) (h : j < 8) : (opArr.getD j []).length = 2 ∧ opArr.getD j [] ∈ ops2 := by
  match j, h with
  | 0, _ | 1, _ | 2, _ | 3, _ | 4, _ | 5, _ | 6, _ | 7, _ => exact ⟨rfl, by decide⟩
  | _ + 8, h => exact absurd h (by omega)
theorem len1 (j : Nat) (h : 8 ≤ j) (h2 : j < 27) : (opArr.getD j []).length = 1 ∧ opArr.getD j [] ∈ ops1 := by
  match j, h, h2 with
  | 8, _, _ | 9, _, _ | 10, _, _ | 11, _, _ | 12, _, _ | 13, _, _ | 14, _, _ | 15, _, _ | 16, _, _ | 17, _, _ | 18, _, _ | 19, _, _ | 20, _, _ | 21, _, _ | 22, _, _ | 23, _, _ | 24, _, _ | 25, _, _ | 26, _, _ => exact ⟨rfl, by decide⟩
  | 0, h, _ | 1, h, _ | 2, h, _ | 3, h, _ | 4, h, _ | 5, h, _ | 6, h, _ | 7, h, _ => exact absurd h (by omega)
  | _ + 27, _, h => exact absurd h (by omega)
theorem mem2 (p : Bs) (h : p ∈ ops2) : ∃ j, j < 8 ∧ opArr.getD j [] = p := by
  simp only [ops2, List.mem_cons, List.not_mem_nil, or_false] at h
  rcases h with rfl | rfl | rfl | rfl | rfl | rfl | rfl | rfl
  · exact ⟨0, by omega, rfl⟩
  · exact ⟨1, by omega, rfl⟩
  · exact ⟨2, by omega, rfl⟩
  · exact ⟨3, by omega, rfl⟩
  · exact ⟨4, by omega, rfl⟩
  · exact ⟨5, by omega, rfl⟩
  · exact ⟨6, by omega, rfl⟩
  · exact ⟨7, by omega, rfl⟩
theorem mem1 (p : Bs) (h : p ∈ ops1) : ∃ j, 8 ≤ j ∧ j < 27 ∧ opArr.getD j [] = p := by
  simp only [ops1, List.mem_cons, List.not_mem_nil, or_false] at h
  rcases h with rfl | rfl | rfl | rfl | rfl | rfl | rfl | rfl | rfl | rfl | rfl | rfl | rfl | rfl | rfl | rfl | rfl | rfl | rfl
  · exact ⟨8, by omega, by omega, rfl⟩
  · exact ⟨9, by omega, by omega, rfl⟩
  · exact ⟨10, by omega, by omega, rfl⟩
  · exact ⟨11, by omega, by omega, rfl⟩
  · exact ⟨12, by omega, by omega, rfl⟩
  · exact ⟨13, by omega, by omega, rfl⟩
  · exact ⟨14, by omega, by omega, rfl⟩
  · exact ⟨15, by omega, by omega, rfl⟩
  · exact ⟨16, by omega, by omega, rfl⟩
  · exact ⟨17, by omega, by omega, rfl⟩
  · exact ⟨18, by omega, by omega, rfl⟩
  · exact ⟨19, by omega, by omega, rfl⟩
  · exact ⟨20, by omega, by omega, rfl⟩
  · exact ⟨21, by omega, by omega, rfl⟩
  · exact ⟨22, by omega, by omega, rfl⟩
  · exact ⟨23, by omega, by omega, rfl⟩
  · exact ⟨24, by omega, by omega, rfl⟩
  · exact ⟨25, by omega, by omega, rfl⟩
  · exact ⟨26, by omega, by omega, rfl⟩

/-- The first number below n that a test takes. -/
theorem first_hit (f : Nat → Bool) (n : Nat) : (∀ k, k < n → f k = false) ∨ ∃ j, j < n ∧ f j = true ∧ ∀ k, k < j → f k = false := by
  induction n with
  | zero => exact .inl fun k h => absurd h (by omega)
  | succ n ih =>
    rcases ih with h | ⟨j, h1, h2, h3⟩
    · cases hf : f n
      · exact .inl fun k hk => by
          by_cases e : k = n
          · subst e; exact hf
          · exact h k (by omega)
      · exact .inr ⟨n, by omega, hf, h⟩
    · exact .inr ⟨j, by omega, h2, h3⟩

theorem op_none (r : Bs) (h : opOf r = 0) : ∀ k, k < 27 → pre r (opArr.getD k []) = false := by
  intro k hk
  unfold opOf at h
  split at h
  · omega
  · rename_i h2
    split at h
    · omega
    · rename_i h1
      rw [← Bool.not_eq_true]
      intro hp
      rw [pre_iff] at hp
      by_cases h8 : k < 8
      · obtain ⟨e, m⟩ := len2 k h8
        rw [e] at hp
        exact h2 (by rw [hp]; simpa using m)
      · obtain ⟨e, m⟩ := len1 k (by omega) hk
        rw [e] at hp
        exact h1 (by rw [hp]; simpa using m)
theorem op_hit (r : Bs) (h : opOf r ≠ 0) : ∃ j, j < 27 ∧ pre r (opArr.getD j []) = true ∧ (∀ k, k < j → pre r (opArr.getD k []) = false) ∧ (opArr.getD j []).length = opOf r := by
  rcases first_hit (fun k => pre r (opArr.getD k [])) 27 with h0 | ⟨j, h1, h2, h3⟩
  · exfalso
    apply h
    unfold opOf
    split
    · rename_i g
      obtain ⟨j, hj, e⟩ := mem2 _ (by simpa using g)
      have := h0 j (by omega)
      have h2 : pre r (opArr.getD j []) = true := by rw [pre_iff, (len2 j hj).1]; exact e.symm
      simp only [h2] at this
      cases this
    · split
      · rename_i g
        obtain ⟨j, hj, hj2, e⟩ := mem1 _ (by simpa using g)
        have := h0 j (by omega)
        have h2 : pre r (opArr.getD j []) = true := by rw [pre_iff, (len1 j hj hj2).1]; exact e.symm
        simp only [h2] at this
        cases this
      · rfl
  · refine ⟨j, h1, h2, h3, ?_⟩
    have hp := (pre_iff _ _).1 h2
    unfold opOf
    by_cases h8 : j < 8
    · obtain ⟨e, m⟩ := len2 j h8
      rw [e] at hp
      rw [if_pos (by rw [hp]; simpa using m), e]
    · obtain ⟨e, m⟩ := len1 j (by omega) h1
      rw [e] at hp
      rw [if_neg, if_pos (by rw [hp]; simpa using m), e]
      intro g
      obtain ⟨i, hi, e2⟩ := mem2 _ (by simpa using g)
      have := h3 i (by omega)
      have h4 : pre r (opArr.getD i []) = true := by rw [pre_iff, (len2 i hi).1]; exact e2.symm
      simp only [h4] at this
      cases this

/-! ### the value of digits -/
def valF (acc : Nat) (t : Bs) : Nat := t.foldl (fun n c => 10 * n + (c.toNat - 48)) acc
theorem valF_ge (t : Bs) : ∀ acc, acc ≤ valF acc t := by
  induction t with
  | nil => intro acc; exact Nat.le_refl _
  | cons c t ih => intro acc; have := ih (10 * acc + (c.toNat - 48)); unfold valF at *; rw [List.foldl_cons]; omega
theorem valF_cons (acc : Nat) (c : UInt8) (t : Bs) : valF acc (c :: t) = valF (10 * acc + (c.toNat - 48)) t := by
  unfold valF; rw [List.foldl_cons]

theorem parseM (t : Bs) : ∀ acc, (∀ c ∈ t, isD c.toNat = true) → acc ≤ 18446744073709551615 →
    Lib.parseUintM 18446744073709551615 acc t = if valF acc t ≤ 18446744073709551615 then .ok (valF acc t) else .range := by
  induction t with
  | nil => intro acc _ h; unfold Lib.parseUintM; rw [if_pos (by exact h)]; rfl
  | cons c t ih =>
    intro acc hd h
    have hc : 48 ≤ c.toNat ∧ c.toNat ≤ 57 := by have := hd c (List.mem_cons_self ..); unfold isD at this; simpa using this
    have e : acc * 10 + (c.toNat - 48) = 10 * acc + (c.toNat - 48) := by omega
    unfold Lib.parseUintM
    rw [if_pos hc, valF_cons, e]
    have hge := valF_ge t (10 * acc + (c.toNat - 48))
    by_cases h1 : 1844674407370955162 ≤ acc
    · rw [if_pos h1, if_neg (by omega)]
    · rw [if_neg h1]
      by_cases h2 : 18446744073709551615 < 10 * acc + (c.toNat - 48)
      · rw [if_pos h2, if_neg (by omega)]
      · rw [if_neg h2]
        exact ih _ (fun x hx => hd x (List.mem_cons_of_mem _ hx)) (by omega)

theorem signless_ok (C u : Nat) : Lib.signlessC C (.ok u) = if C ≤ u then .range else .ok (u : Int) := rfl
theorem signless_range (C : Nat) : Lib.signlessC C .range = .range := rfl
theorem pow63 : (2 : Nat) ^ (64 - 1) = 9223372036854775808 := by decide
theorem uint_val (c : UInt8) (t : Bs) : Lib.parseUintB 64 (c :: t) = Lib.parseUintM 18446744073709551615 0 (c :: t) := by
  have e : (2 : Nat) ^ 64 - 1 = 18446744073709551615 := by decide
  rw [Lib.parseUintB, if_neg (List.cons_ne_nil _ _), e]
theorem parse_val (t : Bs) (hne : t ≠ []) (hd : ∀ c ∈ t, isD c.toNat = true) :
    (val t < 9223372036854775808 → Lib.parseIntB 64 t = .ok (val t : Int)) ∧ (¬ val t < 9223372036854775808 → Lib.parseIntB 64 t = .range) := by
  cases t with
  | nil => exact absurd rfl hne
  | cons c t =>
    have hc : 48 ≤ c.toNat ∧ c.toNat ≤ 57 := by have := hd c (List.mem_cons_self ..); unfold isD at this; simpa using this
    have hm := parseM (c :: t) 0 hd (Nat.zero_le _)
    have hv : valF 0 (c :: t) = val (c :: t) := rfl
    rw [hv] at hm
    rw [Lib.parseIntB_plain 64 c t (by omega) (by omega), uint_val, hm, pow63]
    generalize val (c :: t) = V
    constructor
    · intro h
      rw [if_pos (by omega), signless_ok, if_neg (by omega)]
    · intro h
      by_cases h2 : V ≤ 18446744073709551615
      · rw [if_pos h2, signless_ok, if_pos (by omega)]
      · rw [if_neg h2, signless_range]

theorem spn_all (p : Nat → Bool) (r : Bs) : ∀ c ∈ r.take (spn p r), p c.toNat = true := by
  induction r with
  | nil => intro c h; simp [spn_nil] at h
  | cons x r ih =>
    intro c h
    rw [spn_cons] at h
    split at h
    · rename_i g
      rw [List.take_succ_cons, List.mem_cons] at h
      rcases h with rfl | h
      · exact g
      · exact ih c h
    · simp at h
end Go.Proofs.YtaalgkcbknlccaaDoor.M
