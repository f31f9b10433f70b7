/-
  Plain mathematics of scanning: tokens of a list of bytes. No program text is reached here.
  Plain mathematics: operators at the head of a text, the value of digits.
  Plain mathematics: what Scan and Comments answer.
  Plain mathematics: bounds on the value of digits.
  Plain mathematics: which texts are names. No program text is reached here.
-/
import Derived.Below
import Derived.Lib.ParseIntBCases

set_option linter.all false
namespace Go.Proofs.YticbcnhbpbaocaaGreatDoor.M
set_option linter.unusedVariables false

abbrev Bs := List UInt8

/-- Letters and digits. -/
def isL (b : Nat) : Bool := decide (97 ≤ b ∧ b ≤ 122 ∨ 65 ≤ b ∧ b ≤ 90 ∨ b = 95)
def isD (b : Nat) : Bool := decide (48 ≤ b ∧ b ≤ 57)
def isLD (b : Nat) : Bool := isL b || isD b
def notFeed (b : Nat) : Bool := !(b == 10)

/-- The keywords; what ends a line beside names and integers; the operators, longest first. -/
def kwList : List Bs := [[116, 121, 112, 101], [115, 116, 114, 117, 99, 116], [118, 97, 114], [102, 117, 110, 99], [105, 102], [101, 108, 115, 101], [102, 111, 114], [114, 101, 116, 117, 114, 110], [103, 111], [100, 101, 102, 101, 114], [115, 101, 108, 101, 99, 116], [99, 97, 115, 101], [100, 101, 102, 97, 117, 108, 116], [99, 104, 97, 110], [110, 101, 119], [109, 97, 107, 101], [108, 101, 110], [116, 114, 117, 101], [102, 97, 108, 115, 101], [110, 105, 108], [112, 114, 105, 110, 116], [99, 108, 111, 115, 101], [105, 110, 116], [98, 111, 111, 108], [109, 117, 116, 101, 120], [114, 119, 109, 117, 116, 101, 120], [103, 114, 111, 117, 112], [111, 110, 99, 101], [97, 116, 111, 109, 105, 99]]
def endList : List Bs := [[116, 114, 117, 101], [102, 97, 108, 115, 101], [110, 105, 108], [114, 101, 116, 117, 114, 110], [105, 110, 116], [98, 111, 111, 108], [109, 117, 116, 101, 120], [114, 119, 109, 117, 116, 101, 120], [103, 114, 111, 117, 112], [111, 110, 99, 101], [97, 116, 111, 109, 105, 99], [41], [93], [125]]
def ops2 : List Bs := [[58, 61], [61, 61], [33, 61], [60, 61], [62, 61], [38, 38], [124, 124], [60, 45]]
def ops1 : List Bs := [[40], [41], [91], [93], [123], [125], [44], [59], [58], [46], [61], [60], [62], [43], [45], [42], [47], [37], [33]]
def kw (t : Bs) : Bool := kwList.contains t

/-- How many bytes at the head belong to a set. -/
def spn (p : Nat → Bool) (r : Bs) : Nat := (r.takeWhile fun c => p c.toNat).length

/-- The length of the operator at the head; 0: none. -/
def opOf (r : Bs) : Nat := if ops2.contains (r.take 2) then 2 else if ops1.contains (r.take 1) then 1 else 0

/-- The value of digits; whether they are an integer. -/
def val (t : Bs) : Nat := t.foldl (fun n c => 10 * n + (c.toNat - 48)) 0
def lead (t : Bs) : Bool := decide (1 < t.length) && (t.head? == some 48)
def numOk (t : Bs) : Bool := decide (val t < 9223372036854775808) && !lead t

def hdL (r : Bs) : Bool := match r with | [] => false | c :: _ => isL c.toNat

/-- A token: kind, text, offset. -/
structure Tok where
  k : Nat
  t : Bs
  a : Nat
deriving DecidableEq

def endB (k : Nat) (t : Bs) : Bool := k == 1 || k == 2 || endList.contains t
def isC (t : Tok) : Bool := t.k == 5

/-- The token at the head, where no white space stands: kind, length, error. -/
def nx (r : Bs) : Nat × Nat × Nat :=
  match r with
  | [] => (0, 0, 4)
  | c :: _ =>
    if isL c.toNat then
      if 32 < spn isLD r then (0, 0, 3) else (if kw (r.take (spn isLD r)) then 3 else 1, spn isLD r, 0)
    else if isD c.toNat then
      if numOk (r.take (spn isD r)) && !hdL (r.drop (spn isD r)) then (2, spn isD r, 0) else (0, 0, 4)
    else if r.take 2 = [47, 47] then (5, spn notFeed r, 0)
    else if opOf r = 0 then (0, 0, 4) else (4, opOf r, 0)

/-- White space that only separates. -/
def sep (ins : Bool) (b : Nat) : Bool := b == 32 || b == 9 || b == 13 || (b == 10 && !ins)

/-- The tokens of r, which stands at offset a; whether a line feed inserts; with comments, up to the first error; its offset, the error. -/
def go : Nat → Bs → Nat → Bool → List Tok × Nat × Nat
  | 0, _, _, _ => ([], 0, 0)
  | _ + 1, [], _, _ => ([], 0, 0)
  | f + 1, c :: r, a, ins =>
    if sep ins c.toNat then go f r (a + 1) ins
    else if c.toNat = 10 then (⟨4, [59], a⟩ :: (go f r (a + 1) false).1, (go f r (a + 1) false).2)
    else
      if (nx (c :: r)).2.2 ≠ 0 then ([], a, (nx (c :: r)).2.2)
      else
        let k := (nx (c :: r)).1
        let n := (nx (c :: r)).2.1
        let x := go f ((c :: r).drop n) (a + n) (if k = 5 then ins else endB k ((c :: r).take n))
        (⟨k, (c :: r).take n, a⟩ :: x.1, x.2)

def scanAll (l : Bs) : List Tok × Nat × Nat := go (l.length + 1) l 0 false

/-! ### spn -/
theorem spn_le (p : Nat → Bool) (r : Bs) : spn p r ≤ r.length := by
  unfold spn
  induction r with
  | nil => simp
  | cons c r ih =>
    rw [List.takeWhile_cons]
    split
    · simpa using ih
    · simp
theorem spn_nil (p : Nat → Bool) : spn p [] = 0 := rfl
theorem spn_cons (p : Nat → Bool) (c : UInt8) (r : Bs) : spn p (c :: r) = if p c.toNat then spn p r + 1 else 0 := by
  unfold spn
  rw [List.takeWhile_cons]
  split <;> simp

/-- The loop that counts has reached k. -/
theorem spn_step (p : Nat → Bool) (r : Bs) (k : Nat) (hk : k ≤ spn p r) : spn p (r.drop k) = spn p r - k := by
  induction k generalizing r with
  | zero => simp
  | succ k ih =>
    cases r with
    | nil => simp [spn_nil] at hk
    | cons c r =>
      rw [spn_cons] at hk ⊢
      split at hk
      · rename_i h
        rw [if_pos h, List.drop_succ_cons, ih r (by omega)]
        omega
      · omega
theorem spn_more (p : Nat → Bool) (r : Bs) (k : Nat) (hk : k ≤ spn p r) (hl : k < r.length) (h : p (r.getD k 0).toNat = true) : k + 1 ≤ spn p r := by
  have e := spn_step p r k hk
  have hd : r.drop k = r[k] :: r.drop (k + 1) := List.drop_eq_getElem_cons hl
  have hg : r.getD k 0 = r[k] := by simp [List.getD, List.getElem?_eq_getElem hl]
  rw [hd, spn_cons, ← hg, if_pos h] at e
  omega
theorem spn_stop (p : Nat → Bool) (r : Bs) (k : Nat) (hk : k ≤ spn p r) (h : k < r.length → p (r.getD k 0).toNat = false) : k = spn p r := by
  have e := spn_step p r k hk
  by_cases hl : k < r.length
  · have hd : r.drop k = r[k] :: r.drop (k + 1) := List.drop_eq_getElem_cons hl
    have hg : r.getD k 0 = r[k] := by simp [List.getD, List.getElem?_eq_getElem hl]
    rw [hd, spn_cons, ← hg, if_neg (by rw [h hl]; exact Bool.false_ne_true)] at e
    omega
  · have := spn_le p r
    omega

/-! ### nx -/
theorem opOf_le (r : Bs) : opOf r ≤ r.length := by
  unfold opOf
  split
  · rename_i h
    simp [ops2] at h
    have : (r.take 2).length = 2 := by
      rcases h with h | h | h | h | h | h | h | h <;> (rw [h]; rfl)
    simp at this
    omega
  · split
    · rename_i h
      cases r with
      | nil => simp [ops1] at h
      | cons c r => simp
    · omega
theorem nx_bd (r : Bs) (h : (nx r).2.2 = 0) : 1 ≤ (nx r).2.1 ∧ (nx r).2.1 ≤ r.length := by
  unfold nx at h ⊢
  cases r with
  | nil => simp at h
  | cons c r =>
    have h1 := spn_le isLD (c :: r)
    have h2 := spn_le isD (c :: r)
    have h3 := spn_le notFeed (c :: r)
    have h4 := opOf_le (c :: r)
    simp only at h ⊢
    by_cases g1 : isL c.toNat = true
    · rw [if_pos g1] at h ⊢
      by_cases g2 : 32 < spn isLD (c :: r)
      · rw [if_pos g2] at h; simp at h
      · rw [if_neg g2]
        refine ⟨?_, h1⟩
        show 1 ≤ spn isLD (c :: r)
        rw [spn_cons, if_pos (by simp [isLD, g1])]; omega
    · rw [if_neg g1] at h ⊢
      by_cases g2 : isD c.toNat = true
      · rw [if_pos g2] at h ⊢
        split at h
        · rename_i g3
          rw [if_pos g3]
          refine ⟨?_, h2⟩
          show 1 ≤ spn isD (c :: r)
          rw [spn_cons, if_pos g2]; omega
        · simp at h
      · rw [if_neg g2] at h ⊢
        by_cases g3 : (c :: r).take 2 = [47, 47]
        · rw [if_pos g3]
          refine ⟨?_, h3⟩
          show 1 ≤ spn notFeed (c :: r)
          have : c = 47 := by
            cases r <;> simp at g3
            exact g3.1
          subst this
          rw [spn_cons, if_pos (by decide)]; omega
        · rw [if_neg g3] at h ⊢
          by_cases g4 : opOf (c :: r) = 0
          · rw [if_pos g4] at h; simp at h
          · rw [if_neg g4]
            exact ⟨by show 1 ≤ opOf (c :: r); omega, h4⟩

/-! ### go: any fuel that suffices serves -/
theorem go_fuel (f : Nat) : ∀ (g : Nat) (r : Bs) (a : Nat) (ins : Bool), r.length < f → r.length < g → go f r a ins = go g r a ins := by
  induction f with
  | zero => intro g r a ins h; omega
  | succ f ih =>
    intro g r a ins h1 h2
    cases g with
    | zero => omega
    | succ g =>
      cases r with
      | nil => rfl
      | cons c r =>
        simp only [List.length_cons] at h1 h2
        unfold go
        by_cases g1 : sep ins c.toNat = true
        · rw [if_pos g1, if_pos g1]; exact ih g r (a + 1) ins (by omega) (by omega)
        · rw [if_neg g1, if_neg g1]
          by_cases g2 : c.toNat = 10
          · rw [if_pos g2, if_pos g2, ih g r (a + 1) false (by omega) (by omega)]
          · rw [if_neg g2, if_neg g2]
            by_cases g3 : (nx (c :: r)).2.2 ≠ 0
            · rw [if_pos g3, if_pos g3]
            · rw [if_neg g3, if_neg g3]
              have hb := nx_bd (c :: r) (by simpa using g3)
              simp only
              rw [ih g _ _ _ (by rw [List.length_drop]; simp at *; omega) (by rw [List.length_drop]; simp at *; omega)]

/-- The tokens from r on, at whatever fuel suffices. -/
def toks (r : Bs) (a : Nat) (ins : Bool) : List Tok × Nat × Nat := go (r.length + 1) r a ins
theorem toks_nil (a : Nat) (ins : Bool) : toks [] a ins = ([], 0, 0) := rfl
theorem toks_sep {c : UInt8} {r : Bs} {a : Nat} {ins : Bool} (h : sep ins c.toNat = true) : toks (c :: r) a ins = toks r (a + 1) ins := by
  unfold toks
  rw [go, if_pos h]
  exact go_fuel _ _ _ _ _ (by simp) (by simp)
theorem toks_feed {c : UInt8} {r : Bs} {a : Nat} {ins : Bool} (h : sep ins c.toNat = false) (h2 : c.toNat = 10) : toks (c :: r) a ins = (⟨4, [59], a⟩ :: (toks r (a + 1) false).1, (toks r (a + 1) false).2) := by
  unfold toks
  rw [go, if_neg (by simp [h]), if_pos h2]
  rfl
theorem toks_err {c : UInt8} {r : Bs} {a : Nat} {ins : Bool} (h : sep ins c.toNat = false) (h2 : c.toNat ≠ 10) (h3 : (nx (c :: r)).2.2 ≠ 0) : toks (c :: r) a ins = ([], a, (nx (c :: r)).2.2) := by
  unfold toks
  rw [go, if_neg (by simp [h]), if_neg h2, if_pos h3]
theorem toks_tok {c : UInt8} {r : Bs} {a k n : Nat} {ins : Bool} (h : sep ins c.toNat = false) (h2 : c.toNat ≠ 10) (h3 : nx (c :: r) = (k, n, 0)) :
    toks (c :: r) a ins = (⟨k, (c :: r).take n, a⟩ :: (toks ((c :: r).drop n) (a + n) (if k = 5 then ins else endB k ((c :: r).take n))).1, (toks ((c :: r).drop n) (a + n) (if k = 5 then ins else endB k ((c :: r).take n))).2) := by
  have hb := nx_bd (c :: r) (by rw [h3])
  rw [h3] at hb
  simp only at hb
  unfold toks
  rw [go, if_neg (by simp [h]), if_neg h2, if_neg (by rw [h3]; simp), h3]
  simp only
  rw [go_fuel (c :: r).length (((c :: r).drop n).length + 1) _ _ _ (by rw [List.length_drop]; simp at *; omega) (by omega)]
theorem scanAll_eq (l : Bs) : scanAll l = toks l 0 false := rfl

/-- Skipping white space. -/
theorem toks_skip (m : Nat) : ∀ (r : Bs) (a : Nat) (ins : Bool), m ≤ spn (sep ins) r → toks r a ins = toks (r.drop m) (a + m) ins := by
  induction m with
  | zero => intro r a ins _; simp
  | succ m ih =>
    intro r a ins h
    cases r with
    | nil => simp [spn_nil] at h
    | cons c r =>
      rw [spn_cons] at h
      split at h
      · rename_i g
        rw [toks_sep g, ih r (a + 1) ins (by omega), List.drop_succ_cons]
        congr 1; omega
      · omega
end Go.Proofs.YticbcnhbpbaocaaGreatDoor.M

namespace Go.Proofs.YticbcnhbpbaocaaGreatDoor.M
set_option linter.unusedVariables false

def opArr : List Bs := ops2 ++ ops1
def pre (r p : Bs) : Bool := p.isPrefixOf r
theorem pre_iff (r p : Bs) : pre r p = true ↔ r.take p.length = p := by
  unfold pre
  rw [List.isPrefixOf_iff_prefix, List.prefix_iff_eq_take]
  exact eq_comm

theorem len2 (j : Nat) (h : j < 8) : (opArr.getD j []).length = 2 ∧ opArr.getD j [] ∈ ops2 := by
  match j, h with
  | 0, _ | 1, _ | 2, _ | 3, _ | 4, _ | 5, _ | 6, _ | 7, _ => exact ⟨rfl, by decide⟩
  | _ + 8, h => exact absurd h (by omega)
theorem len1 (j : Nat) (h : 8 ≤ j) (h2 : j < 27) : (opArr.getD j []).length = 1 ∧ opArr.getD j [] ∈ ops1 := by
  match j, h, h2 with
  | 8, _, _ | 9, _, _ | 10, _, _ | 11, _, _ | 12, _, _ | 13, _, _ | 14, _, _ | 15, _, _ | 16, _, _ | 17, _, _ | 18, _, _ | 19, _, _ | 20, _, _ | 21, _, _ | 22, _, _ | 23, _, _ | 24, _, _ | 25, _, _ | 26, _, _ => exact ⟨rfl, by decide⟩
  | 0, h, _ | 1, h, _ | 2, h, _ | 3, h, _ | 4, h, _ | 5, h, _ | 6, h, _ | 7, h, _ => exact absurd h (by omega)
  | _ + 27, _, h => exact absurd h (by omega)
theorem mem2 (p : Bs) (h : p ∈ ops2) : ∃ j, j < 8 ∧ opArr.getD j [] = p := by
  simp only [ops2, List.mem_cons, List.not_mem_nil, or_false] at h
  rcases h with rfl | rfl | rfl | rfl | rfl | rfl | rfl | rfl
  · exact ⟨0, by omega, rfl⟩
  · exact ⟨1, by omega, rfl⟩
  · exact ⟨2, by omega, rfl⟩
  · exact ⟨3, by omega, rfl⟩
  · exact ⟨4, by omega, rfl⟩
  · exact ⟨5, by omega, rfl⟩
  · exact ⟨6, by omega, rfl⟩
  · exact ⟨7, by omega, rfl⟩
theorem mem1 (p : Bs) (h : p ∈ ops1) : ∃ j, 8 ≤ j ∧ j < 27 ∧ opArr.getD j [] = p := by
  simp only [ops1, List.mem_cons, List.not_mem_nil, or_false] at h
  rcases h with rfl | rfl | rfl | rfl | rfl | rfl | rfl | rfl | rfl | rfl | rfl | rfl | rfl | rfl | rfl | rfl | rfl | rfl | rfl
  · exact ⟨8, by omega, by omega, rfl⟩
  · exact ⟨9, by omega, by omega, rfl⟩
  · exact ⟨10, by omega, by omega, rfl⟩
  · exact ⟨11, by omega, by omega, rfl⟩
  · exact ⟨12, by omega, by omega, rfl⟩
  · exact ⟨13, by omega, by omega, rfl⟩
  · exact ⟨14, by omega, by omega, rfl⟩
  · exact ⟨15, by omega, by omega, rfl⟩
  · exact ⟨16, by omega, by omega, rfl⟩
  · exact ⟨17, by omega, by omega, rfl⟩
  · exact ⟨18, by omega, by omega, rfl⟩
  · exact ⟨19, by omega, by omega, rfl⟩
  · exact ⟨20, by omega, by omega, rfl⟩
  · exact ⟨21, by omega, by omega, rfl⟩
  · exact ⟨22, by omega, by omega, rfl⟩
  · exact ⟨23, by omega, by omega, rfl⟩
  · exact ⟨24, by omega, by omega, rfl⟩
  · exact ⟨25, by omega, by omega, rfl⟩
  · exact ⟨26, by omega, by omega, rfl⟩

/-- The first number below n that a test takes. -/
theorem first_hit (f : Nat → Bool) (n : Nat) : (∀ k, k < n → f k = false) ∨ ∃ j, j < n ∧ f j = true ∧ ∀ k, k < j → f k = false := by
  induction n with
  | zero => exact .inl fun k h => absurd h (by omega)
  | succ n ih =>
    rcases ih with h | ⟨j, h1, h2, h3⟩
    · cases hf : f n
      · exact .inl fun k hk => by
          by_cases e : k = n
          · subst e; exact hf
          · exact h k (by omega)
      · exact .inr ⟨n, by omega, hf, h⟩
    · exact .inr ⟨j, by omega, h2, h3⟩

theorem op_none (r : Bs) (h : opOf r = 0) : ∀ k, k < 27 → pre r (opArr.getD k []) = false := by
  intro k hk
  unfold opOf at h
  split at h
  · omega
  · rename_i h2
    split at h
    · omega
    · rename_i h1
      rw [← Bool.not_eq_true]
      intro hp
      rw [pre_iff] at hp
      by_cases h8 : k < 8
      · obtain ⟨e, m⟩ := len2 k h8
        rw [e] at hp
        exact h2 (by rw [hp]; simpa using m)
      · obtain ⟨e, m⟩ := len1 k (by omega) hk
        rw [e] at hp
        exact h1 (by rw [hp]; simpa using m)
theorem op_hit (r : Bs) (h : opOf r ≠ 0) : ∃ j, j < 27 ∧ pre r (opArr.getD j []) = true ∧ (∀ k, k < j → pre r (opArr.getD k []) = false) ∧ (opArr.getD j []).length = opOf r := by
  rcases first_hit (fun k => pre r (opArr.getD k [])) 27 with h0 | ⟨j, h1, h2, h3⟩
  · exfalso
    apply h
    unfold opOf
    split
    · rename_i g
      obtain ⟨j, hj, e⟩ := mem2 _ (by simpa using g)
      have := h0 j (by omega)
      have h2 : pre r (opArr.getD j []) = true := by rw [pre_iff, (len2 j hj).1]; exact e.symm
      simp only [h2] at this
      cases this
    · split
      · rename_i g
        obtain ⟨j, hj, hj2, e⟩ := mem1 _ (by simpa using g)
        have := h0 j (by omega)
        have h2 : pre r (opArr.getD j []) = true := by rw [pre_iff, (len1 j hj hj2).1]; exact e.symm
        simp only [h2] at this
        cases this
      · rfl
  · refine ⟨j, h1, h2, h3, ?_⟩
    have hp := (pre_iff _ _).1 h2
    unfold opOf
    by_cases h8 : j < 8
    · obtain ⟨e, m⟩ := len2 j h8
      rw [e] at hp
      rw [if_pos (by rw [hp]; simpa using m), e]
    · obtain ⟨e, m⟩ := len1 j (by omega) h1
      rw [e] at hp
      rw [if_neg, if_pos (by rw [hp]; simpa using m), e]
      intro g
      obtain ⟨i, hi, e2⟩ := mem2 _ (by simpa using g)
      have := h3 i (by omega)
      have h4 : pre r (opArr.getD i []) = true := by rw [pre_iff, (len2 i hi).1]; exact e2.symm
      simp only [h4] at this
      cases this

/-! ### the value of digits -/
def valF (acc : Nat) (t : Bs) : Nat := t.foldl (fun n c => 10 * n + (c.toNat - 48)) acc
theorem valF_ge (t : Bs) : ∀ acc, acc ≤ valF acc t := by
  induction t with
  | nil => intro acc; exact Nat.le_refl _
  | cons c t ih => intro acc; have := ih (10 * acc + (c.toNat - 48)); unfold valF at *; rw [List.foldl_cons]; omega
theorem valF_cons (acc : Nat) (c : UInt8) (t : Bs) : valF acc (c :: t) = valF (10 * acc + (c.toNat - 48)) t := by
  unfold valF; rw [List.foldl_cons]

theorem parseM (t : Bs) : ∀ acc, (∀ c ∈ t, isD c.toNat = true) → acc ≤ 18446744073709551615 →
    Lib.parseUintM 18446744073709551615 acc t = if valF acc t ≤ 18446744073709551615 then .ok (valF acc t) else .range := by
  induction t with
  | nil => intro acc _ h; unfold Lib.parseUintM; rw [if_pos (by exact h)]; rfl
  | cons c t ih =>
    intro acc hd h
    have hc : 48 ≤ c.toNat ∧ c.toNat ≤ 57 := by have := hd c (List.mem_cons_self ..); unfold isD at this; simpa using this
    have e : acc * 10 + (c.toNat - 48) = 10 * acc + (c.toNat - 48) := by omega
    unfold Lib.parseUintM
    rw [if_pos hc, valF_cons, e]
    have hge := valF_ge t (10 * acc + (c.toNat - 48))
    by_cases h1 : 1844674407370955162 ≤ acc
    · rw [if_pos h1, if_neg (by omega)]
    · rw [if_neg h1]
      by_cases h2 : 18446744073709551615 < 10 * acc + (c.toNat - 48)
      · rw [if_pos h2, if_neg (by omega)]
      · rw [if_neg h2]
        exact ih _ (fun x hx => hd x (List.mem_cons_of_mem _ hx)) (by omega)

theorem signless_ok (C u : Nat) : Lib.signlessC C (.ok u) = if C ≤ u then .range else .ok (u : Int) := rfl
theorem signless_range (C : Nat) : Lib.signlessC C .range = .range := rfl
theorem pow63 : (2 : Nat) ^ (64 - 1) = 9223372036854775808 := by decide
theorem uint_val (c : UInt8) (t : Bs) : Lib.parseUintB 64 (c :: t) = Lib.parseUintM 18446744073709551615 0 (c :: t) := by
  have e : (2 : Nat) ^ 64 - 1 = 18446744073709551615 := by decide
  rw [Lib.parseUintB, if_neg (List.cons_ne_nil _ _), e]
theorem parse_val (t : Bs) (hne : t ≠ []) (hd : ∀ c ∈ t, isD c.toNat = true) :
    (val t < 9223372036854775808 → Lib.parseIntB 64 t = .ok (val t : Int)) ∧ (¬ val t < 9223372036854775808 → Lib.parseIntB 64 t = .range) := by
  cases t with
  | nil => exact absurd rfl hne
  | cons c t =>
    have hc : 48 ≤ c.toNat ∧ c.toNat ≤ 57 := by have := hd c (List.mem_cons_self ..); unfold isD at this; simpa using this
    have hm := parseM (c :: t) 0 hd (Nat.zero_le _)
    have hv : valF 0 (c :: t) = val (c :: t) := rfl
    rw [hv] at hm
    rw [Lib.parseIntB_plain 64 c t (by omega) (by omega), uint_val, hm, pow63]
    generalize val (c :: t) = V
    constructor
    · intro h
      rw [if_pos (by omega), signless_ok, if_neg (by omega)]
    · intro h
      by_cases h2 : V ≤ 18446744073709551615
      · rw [if_pos h2, signless_ok, if_pos (by omega)]
      · rw [if_neg h2, signless_range]

theorem spn_all (p : Nat → Bool) (r : Bs) : ∀ c ∈ r.take (spn p r), p c.toNat = true := by
  induction r with
  | nil => intro c h; simp [spn_nil] at h
  | cons x r ih =>
    intro c h
    rw [spn_cons] at h
    split at h
    · rename_i g
      rw [List.take_succ_cons, List.mem_cons] at h
      rcases h with rfl | h
      · exact g
      · exact ih c h
    · simp at h
end Go.Proofs.YticbcnhbpbaocaaGreatDoor.M

namespace Go.Proofs.YticbcnhbpbaocaaGreatDoor.M
set_option linter.unusedVariables false

/-- A property of every step of the scanner is one of its end. -/
theorem toks_ind {P : Bs → Nat → Bool → List Tok × Nat × Nat → Prop}
    (h0 : ∀ a ins, P [] a ins ([], 0, 0))
    (h1 : ∀ c r a ins, sep ins c.toNat = true → P r (a + 1) ins (toks r (a + 1) ins) → P (c :: r) a ins (toks r (a + 1) ins))
    (h2 : ∀ c r a ins, sep ins c.toNat = false → c.toNat = 10 → P r (a + 1) false (toks r (a + 1) false) → P (c :: r) a ins (⟨4, [59], a⟩ :: (toks r (a + 1) false).1, (toks r (a + 1) false).2))
    (h3 : ∀ c r a ins, sep ins c.toNat = false → c.toNat ≠ 10 → (nx (c :: r)).2.2 ≠ 0 → P (c :: r) a ins ([], a, (nx (c :: r)).2.2))
    (h4 : ∀ c r a ins k n, sep ins c.toNat = false → c.toNat ≠ 10 → nx (c :: r) = (k, n, 0) → 1 ≤ n → n ≤ (c :: r).length →
      P ((c :: r).drop n) (a + n) (if k = 5 then ins else endB k ((c :: r).take n)) (toks ((c :: r).drop n) (a + n) (if k = 5 then ins else endB k ((c :: r).take n))) →
      P (c :: r) a ins (⟨k, (c :: r).take n, a⟩ :: (toks ((c :: r).drop n) (a + n) (if k = 5 then ins else endB k ((c :: r).take n))).1, (toks ((c :: r).drop n) (a + n) (if k = 5 then ins else endB k ((c :: r).take n))).2))
    : ∀ r a ins, P r a ins (toks r a ins) := by
  intro r
  generalize hm : r.length = m
  induction m using Nat.strongRecOn generalizing r with
  | ind m ih =>
    intro a ins
    cases r with
    | nil => exact h0 a ins
    | cons c r =>
      simp at hm
      cases hs : sep ins c.toNat with
      | true => rw [toks_sep hs]; exact h1 c r a ins hs (ih r.length (by omega) r rfl _ _)
      | false =>
        by_cases h10 : c.toNat = 10
        · rw [toks_feed hs h10]; exact h2 c r a ins hs h10 (ih r.length (by omega) r rfl _ _)
        · by_cases he : (nx (c :: r)).2.2 = 0
          · obtain ⟨k, n, hx⟩ : ∃ k n, nx (c :: r) = (k, n, 0) := ⟨_, _, by rw [← he]⟩
            have hb := nx_bd _ he
            rw [hx] at hb
            rw [toks_tok hs h10 hx]
            exact h4 c r a ins k n hs h10 hx hb.1 hb.2 (ih _ (by rw [List.length_drop]; simp at hb ⊢; omega) _ rfl _ _)
          · rw [toks_err hs h10 he]; exact h3 c r a ins hs h10 he

theorem toks_len (r : Bs) (a : Nat) (ins : Bool) : (toks r a ins).1.length ≤ r.length := by
  refine toks_ind (P := fun r _ _ x => x.1.length ≤ r.length) ?_ ?_ ?_ ?_ ?_ r a ins
  · intro a ins; simp
  · intro c r a ins _ h; simp at h ⊢; omega
  · intro c r a ins _ _ h; simp at h ⊢; omega
  · intro c r a ins _ _ _; simp
  · intro c r a ins k n _ _ _ h1 h2 h; simp at h h2 ⊢; omega

/-- All that the scanner answers about a text. -/
def scanR (l : Bs) : List Tok × Nat × Nat := if 20000 < l.length then ([], 0, 3) else scanAll l
def scanL (l : Bs) : List Tok := if (scanR l).2.2 = 0 then (scanR l).1.filter (fun t => !(t.k == 5)) else []
def scanA (l : Bs) : Nat := (scanR l).2.1
def scanE (l : Bs) : Nat := (scanR l).2.2
def comL (l : Bs) : List Tok := (scanR l).1.filter (fun t => t.k == 5)
theorem scanR_len (l : Bs) : (scanR l).1.length ≤ 20000 := by
  unfold scanR
  split
  · simp
  · have := toks_len l 0 false
    rw [scanAll_eq]; omega
theorem scanA_zero (l : Bs) (h : scanE l = 0) : scanA l = 0 := by
  unfold scanE scanA scanR at *
  split at h
  · simp at h
  · rename_i g
    rw [if_neg g]
    rw [scanAll_eq] at h ⊢
    revert h
    refine toks_ind (P := fun _ _ _ x => x.2.2 = 0 → x.2.1 = 0) ?_ ?_ ?_ ?_ ?_ l 0 false
    · intro a ins _; rfl
    · intro c r a ins _ h; exact h
    · intro c r a ins _ _ h; exact h
    · intro c r a ins _ _ h h2; exact absurd h2 h
    · intro c r a ins k n _ _ _ _ _ h; exact h
end Go.Proofs.YticbcnhbpbaocaaGreatDoor.M

namespace Go.Proofs.YticbcnhbpbaocaaGreatDoor.M
set_option linter.unusedVariables false

theorem digit_bd {c : UInt8} (h : isD c.toNat = true) : 48 ≤ c.toNat ∧ c.toNat ≤ 57 := by unfold isD at h; simpa using h
theorem valF_lt (t : Bs) : ∀ acc, (∀ c ∈ t, isD c.toNat = true) → valF acc t < (acc + 1) * 10 ^ t.length := by
  induction t with
  | nil => intro acc _; unfold valF; simp
  | cons c t ih =>
    intro acc hd
    have hc := digit_bd (hd c (List.mem_cons_self ..))
    have := ih (10 * acc + (c.toNat - 48)) (fun x hx => hd x (List.mem_cons_of_mem _ hx))
    rw [valF_cons, List.length_cons, Nat.pow_succ]
    have h1 : (10 * acc + (c.toNat - 48) + 1) ≤ (acc + 1) * 10 := by omega
    calc valF (10 * acc + (c.toNat - 48)) t < (10 * acc + (c.toNat - 48) + 1) * 10 ^ t.length := this
      _ ≤ ((acc + 1) * 10) * 10 ^ t.length := Nat.mul_le_mul_right _ h1
      _ = (acc + 1) * (10 ^ t.length * 10) := by rw [Nat.mul_assoc, Nat.mul_comm 10]
theorem valF_low (t : Bs) : ∀ acc, acc * 10 ^ t.length ≤ valF acc t := by
  induction t with
  | nil => intro acc; unfold valF; simp
  | cons c t ih =>
    intro acc
    have := ih (10 * acc + (c.toNat - 48))
    rw [valF_cons, List.length_cons, Nat.pow_succ]
    calc acc * (10 ^ t.length * 10) = (10 * acc) * 10 ^ t.length := by rw [Nat.mul_comm (10 ^ t.length), ← Nat.mul_assoc, Nat.mul_comm acc]
      _ ≤ (10 * acc + (c.toNat - 48)) * 10 ^ t.length := Nat.mul_le_mul_right _ (by omega)
      _ ≤ _ := this

theorem num_long (t : Bs) (hd : ∀ c ∈ t, isD c.toNat = true) (hl : 19 < t.length) : numOk t = false := by
  cases t with
  | nil => simp at hl
  | cons c t =>
    have hc := digit_bd (hd c (List.mem_cons_self ..))
    unfold numOk
    cases hlead : lead (c :: t) with
    | true => simp
    | false =>
      have h48 : c.toNat ≠ 48 := by
        intro e
        have e2 : c = 48 := UInt8.toNat_inj.1 e
        subst e2
        have g : lead (48 :: t) = true := by
          unfold lead
          rw [decide_eq_true (by omega : 1 < (48 :: t : Bs).length)]
          rfl
        rw [g] at hlead
        cases hlead
      have h1 := valF_low t (10 * 0 + (c.toNat - 48))
      have h2 : val (c :: t) = valF (10 * 0 + (c.toNat - 48)) t := rfl
      simp at hl
      have h3 : 10 ^ 19 ≤ 10 ^ t.length := Nat.pow_le_pow_right (by omega) (by omega)
      have h4 : 1 * 10 ^ t.length ≤ (10 * 0 + (c.toNat - 48)) * 10 ^ t.length := Nat.mul_le_mul_right _ (by omega)
      have h5 : (10 : Nat) ^ 19 = 10000000000000000000 := by decide
      have : ¬ val (c :: t) < 9223372036854775808 := by rw [h2]; omega
      simp [this]

theorem num_zero {t : Bs} (h1 : 1 < t.length) (h2 : t.head? = some 48) : numOk t = false := by
  unfold numOk lead
  simp [h1, h2]
theorem num_else {t : Bs} (h : ¬ (1 < t.length ∧ t.head? = some 48)) : numOk t = decide (val t < 9223372036854775808) := by
  unfold numOk lead
  have : (decide (1 < t.length) && (t.head? == some 48)) = false := by
    rw [← Bool.not_eq_true]; intro g; apply h; simpa using g
  rw [this]; simp

/-- One digit more. -/
theorem valF_take (t : Bs) (k : Nat) (hk : k < t.length) : valF 0 (t.take (k + 1)) = 10 * valF 0 (t.take k) + (t[k].toNat - 48) := by
  rw [List.take_succ_eq_append_getElem hk]
  unfold valF
  rw [List.foldl_append]
  rfl
theorem valF_bd (t : Bs) (hd : ∀ c ∈ t, isD c.toNat = true) (k : Nat) (hk : k ≤ 18) : valF 0 (t.take k) ≤ 999999999999999999 := by
  have := valF_lt (t.take k) 0 (fun c hc => hd c (List.mem_of_mem_take hc))
  have h2 : (10 : Nat) ^ (t.take k).length ≤ 10 ^ 18 := Nat.pow_le_pow_right (by omega) (by simp; omega)
  have h3 : (10 : Nat) ^ 18 = 1000000000000000000 := by decide
  omega
end Go.Proofs.YticbcnhbpbaocaaGreatDoor.M

namespace Go.Proofs.YticbcnhbpbaocaaGreatDoor.M
set_option linter.unusedVariables false

theorem spn_full {p : Nat → Bool} {l : Bs} (h : spn p l = l.length) : ∀ c ∈ l, p c.toNat = true := by
  have := spn_all p l
  rw [h, List.take_length] at this
  exact this
theorem full_spn {p : Nat → Bool} {l : Bs} (h : ∀ c ∈ l, p c.toNat = true) : spn p l = l.length := by
  induction l with
  | nil => rfl
  | cons c r ih =>
    rw [spn_cons, if_pos (h c (List.mem_cons_self ..)), ih (fun x hx => h x (List.mem_cons_of_mem _ hx))]
    rfl
/-- No token is longer than the text. -/
theorem toks_text (r : Bs) (a : Nat) (ins : Bool) : ∀ t ∈ (toks r a ins).1, t.t.length ≤ r.length := by
  refine toks_ind (P := fun r a ins x => ∀ t ∈ x.1, t.t.length ≤ r.length) ?_ ?_ ?_ ?_ ?_ r a ins
  · intro a ins t ht; simp at ht
  · intro c r a ins _ ih t ht
    have := ih t ht
    simp; omega
  · intro c r a ins _ _ ih t ht
    simp only [List.mem_cons] at ht
    rcases ht with rfl | ht
    · simp
    · have := ih t ht
      simp; omega
  · intro c r a ins _ _ _ t ht; simp at ht
  · intro c r a ins k n _ _ _ h1 h2 ih t ht
    simp only [List.mem_cons] at ht
    rcases ht with rfl | ht
    · simp; omega
    · have := ih t ht
      simp at this ⊢
      omega
/-- What a name is. -/
def nmB (l : Bs) : Bool := decide (l.length ≤ 32) && hdL l && !kw l && l.all (fun c => isLD c.toNat)
theorem nmS_yes {l : Bs} (h : nmB l = true) : (match scanL l with | [t] => t.k == 1 && t.t == l | _ => false) = true := by
  unfold nmB at h
  simp only [Bool.and_eq_true, decide_eq_true_eq, Bool.not_eq_true', List.all_eq_true] at h
  obtain ⟨⟨⟨h1, h2⟩, h3⟩, h4⟩ := h
  cases l with
  | nil => simp [hdL] at h2
  | cons c r =>
    have hL : isL c.toNat = true := h2
    have hs : spn isLD (c :: r) = (c :: r).length := full_spn h4
    have hnx : nx (c :: r) = (1, (c :: r).length, 0) := by
      unfold nx
      simp only
      rw [if_pos hL, hs, if_neg (by omega), List.take_length, h3]
      rfl
    have hb : 65 ≤ c.toNat := by unfold isL at hL; simp at hL; omega
    have hsep : sep false c.toNat = false := by unfold sep; simp; omega
    have ht := toks_tok (a := 0) hsep (by omega) hnx
    have hA : scanR (c :: r) = ([⟨1, c :: r, 0⟩], 0, 0) := by
      unfold scanR
      rw [if_neg (by omega), scanAll_eq, ht, List.take_length, List.drop_length, toks_nil]
    unfold scanL
    rw [hA]
    simp
theorem nmS_no {l : Bs} (h : (match scanL l with | [t] => t.k == 1 && t.t == l | _ => false) = true) : nmB l = true := by
  split at h
  · rename_i t ht
    simp only [Bool.and_eq_true, beq_iff_eq] at h
    obtain ⟨hk, htl⟩ := h
    unfold scanL at ht
    split at ht
    · rename_i he
      have hlen : ¬ 20000 < l.length := by
        intro hl
        unfold scanR at he
        rw [if_pos hl] at he
        simp at he
      have hR : scanR l = toks l 0 false := by unfold scanR; rw [if_neg hlen, scanAll_eq]
      rw [hR] at ht he
      cases l with
      | nil => rw [toks_nil] at ht; simp at ht
      | cons c r =>
        have hmem : t ∈ (toks (c :: r) 0 false).1 := by
          have : t ∈ List.filter (fun t => !(t.k == 5)) (toks (c :: r) 0 false).1 := by rw [ht]; simp
          exact (List.mem_filter.1 this).1
        by_cases hsep : sep false c.toNat = true
        · rw [toks_sep hsep] at hmem
          have := toks_text r 1 false t hmem
          rw [htl] at this
          simp at this
          omega
        · have hsep : sep false c.toNat = false := by simpa using hsep
          have h10 : c.toNat ≠ 10 := by intro e; rw [e] at hsep; simp [sep] at hsep
          by_cases h3 : (nx (c :: r)).2.2 = 0
          · obtain ⟨k, n, hx⟩ : ∃ k n, nx (c :: r) = (k, n, 0) := ⟨(nx (c :: r)).1, (nx (c :: r)).2.1, by rw [← h3]⟩
            have hbd := nx_bd (c :: r) h3
            rw [hx] at hbd
            simp only at hbd
            rw [toks_tok hsep h10 hx] at hmem ht
            simp only [List.mem_cons] at hmem
            rcases hmem with hm | hm
            · have hk1 : k = 1 := by rw [hm] at hk; exact hk
              have hn : n = (c :: r).length := by
                have e : (c :: r).take n = c :: r := by rw [hm] at htl; exact htl
                have := congrArg List.length e
                rw [List.length_take] at this
                omega
              subst hk1 hn
              unfold nx at hx
              simp only at hx
              by_cases hL : isL c.toNat = true
              · rw [if_pos hL] at hx
                by_cases h32 : 32 < spn isLD (c :: r)
                · rw [if_pos h32] at hx; simp at hx
                · rw [if_neg h32] at hx
                  simp only [Prod.mk.injEq] at hx
                  obtain ⟨e1, e2, _⟩ := hx
                  have hkw : kw (c :: r) = false := by
                    rw [e2, List.take_length] at e1
                    cases hkk : kw (c :: r) with
                    | false => rfl
                    | true => rw [hkk] at e1; simp at e1
                  unfold nmB
                  simp only [Bool.and_eq_true, decide_eq_true_eq, Bool.not_eq_true', List.all_eq_true]
                  exact ⟨⟨⟨by omega, hL⟩, hkw⟩, spn_full e2⟩
              · rw [if_neg hL] at hx
                exfalso
                split at hx
                · split at hx <;> simp at hx
                · split at hx
                  · simp at hx
                  · split at hx <;> simp at hx
            · have := toks_text _ _ _ t hm
              rw [htl] at this
              simp at this
              simp at hbd
              omega
          · rw [toks_err hsep h10 h3] at hmem
            simp at hmem
    · simp at ht
  · cases h
theorem nmS_eq (l : Bs) : (match scanL l with | [t] => t.k == 1 && t.t == l | _ => false) = nmB l := by
  rw [Bool.eq_iff_iff]
  exact ⟨nmS_no, nmS_yes⟩
end Go.Proofs.YticbcnhbpbaocaaGreatDoor.M
