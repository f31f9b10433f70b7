/-
  Plain mathematics of scanning: tokens of a list of bytes. No program text is reached here.
-/
import Derived.Below
import Derived.Lib.ParseIntBCases
namespace Go.Proofs.YtaalgkcbknlccaaDoor.M
set_option linter.unusedVariables false

abbrev Bs := List UInt8

/-- Letters and digits. -/
def isL (b : Nat) : Bool := decide (97 ≤ b ∧ b ≤ 122 ∨ 65 ≤ b ∧ b ≤ 90 ∨ b = 95)
def isD (b : Nat) : Bool := decide (48 ≤ b ∧ b ≤ 57)
def isLD (b : Nat) : Bool := isL b || isD b
def notFeed (b : Nat) : Bool := !(b == 10)

/-- The keywords; what ends a line beside names and integers; the operators, longest first. -/
def kwList : List Bs := [[116, 121, 112, 101], [115, 116, 114, 117, 99, 116], [118, 97, 114], [102, 117, 110, 99], [105, 102], [101, 108, 115, 101], [102, 111, 114], [114, 101, 116, 117, 114, 110], [103, 111], [100, 101, 102, 101, 114], [115, 101, 108, 101, 99, 116], [99, 97, 115, 101], [100, 101, 102, 97, 117, 108, 116], [99, 104, 97, 110], [110, 101, 119], [109, 97, 107, 101], [108, 101, 110], [116, 114, 117, 101], [102, 97, 108, 115, 101], [110, 105, 108], [112, 114, 105, 110, 116], [99, 108, 111, 115, 101], [105, 110, 116], [98, 111, 111, 108], [109, 117, 116, 101, 120], [114, 119, 109, 117, 116, 101, 120], [103, 114, 111, 117, 112], [111, 110, 99, 101], [97, 116, 111, 109, 105, 99]]
def endList : List Bs := [[116, 114, 117, 101], [102, 97, 108, 115, 101], [110, 105, 108], [114, 101, 116, 117, 114, 110], [105, 110, 116], [98, 111, 111, 108], [109, 117, 116, 101, 120], [114, 119, 109, 117, 116, 101, 120], [103, 114, 111, 117, 112], [111, 110, 99, 101], [97, 116, 111, 109, 105, 99], [41], [93], [125]]
def ops2 : List Bs := [[58, 61], [61, 61], [33, 61], [60, 61], [62, 61], [38, 38], [124, 124], [60, 45]]
def ops1 : List Bs := [[40], [41], [91], [93], [123], [125], [44], [59], [58], [46], [61], [60], [62], [43], [45], [42], [47], [37], [33]]
def kw (t : Bs) : Bool := kwList.contains t

/-- How many bytes at the head belong to a set. -/
def spn (p : Nat → Bool) (r : Bs) : Nat := (r.takeWhile fun c => p c.toNat).length

/-- The length of the operator at the head; 0: none. -/
def opOf (r : Bs) : Nat := if ops2.contains (r.take 2) then 2 else if ops1.contains (r.take 1) then 1 else 0

/-- The value of digits; whether they are an integer. -/
def val (t : Bs) : Nat := t.foldl (fun n c => 10 * n + (c.toNat - 48)) 0
def lead (t : Bs) : Bool := decide (1 < t.length) && (t.head? == some 48)
def numOk (t : Bs) : Bool := decide (val t < 9223372036854775808) && !lead t

def hdL (r : Bs) : Bool := match r with | [] => false | c :: _ => isL c.toNat

/-- A token: kind, text, offset. -/
structure Tok where
  k : Nat
  t : Bs
  a : Nat
deriving DecidableEq

def endB (k : Nat) (t : Bs) : Bool := k == 1 || k == 2 || endList.contains t
def isC (t : Tok) : Bool := t.k == 5

/-- The token at the head, where no white space stands: kind, length, error. -/
def nx (r : Bs) : Nat × Nat × Nat :=
  match r with
  | [] => (0, 0, 4)
  | c :: _ =>
    if isL c.toNat then
      if 32 < spn isLD r then (0, 0, 3) else (if kw (r.take (spn isLD r)) then 3 else 1, spn isLD r, 0)
    else if isD c.toNat then
      if numOk (r.take (spn isD r)) && !hdL (r.drop (spn isD r)) then (2, spn isD r, 0) else (0, 0, 4)
    else if r.take 2 = [47, 47] then (5, spn notFeed r, 0)
    else if opOf r = 0 then (0, 0, 4) else (4, opOf r, 0)

/-- White space that only separates. -/
def sep (ins : Bool) (b : Nat) : Bool := b == 32 || b == 9 || b == 13 || (b == 10 && !ins)

/-- The tokens of r, which stands at offset a; whether a line feed inserts; with comments, up to the first error; its offset, the error. -/
def go : Nat → Bs → Nat → Bool → List Tok × Nat × Nat
  | 0, _, _, _ => ([], 0, 0)
  | _ + 1, [], _, _ => ([], 0, 0)
  | f + 1, c :: r, a, ins =>
    if sep ins c.toNat then go f r (a + 1) ins
    else if c.toNat = 10 then (⟨4, [59], a⟩ :: (go f r (a + 1) false).1, (go f r (a + 1) false).2)
    else
      if (nx (c :: r)).2.2 ≠ 0 then ([], a, (nx (c :: r)).2.2)
      else
        let k := (nx (c :: r)).1
        let n := (nx (c :: r)).2.1
        let x := go f ((c :: r).drop n) (a + n) (if k = 5 then ins else endB k ((c :: r).take n))
        (⟨k, (c :: r).take n, a⟩ :: x.1, x.2)

def scanAll (l : Bs) : List Tok × Nat × Nat := go (l.length + 1) l 0 false

/-! ### spn -/
theorem spn_le (p : Nat → Bool) (r : Bs) : spn p r ≤ r.length := by
  unfold spn
  induction r with
  | nil => simp
  | cons c r ih =>
    rw [List.takeWhile_cons]
    split
    · simpa using ih
    · simp
theorem spn_nil (p : Nat → Bool) : spn p [] = 0 := rfl
theorem spn_cons (p : Nat → Bool) (c : UInt8) (r : Bs) : spn p (c :: r) = if p c.toNat then spn p r + 1 else 0 := by
  unfold spn
  rw [List.takeWhile_cons]
  split <;> simp

/-- The loop that counts has reached k. -/
theorem spn_step (p : Nat → Bool) (r : Bs) (k : Nat) (hk : k ≤ spn p r) : spn p (r.drop k) = spn p r - k := by
  induction k generalizing r with
  | zero => simp
  | succ k ih =>
    cases r with
    | nil => simp [spn_nil] at hk
    | cons c r =>
      rw [spn_cons] at hk ⊢
      split at hk
      · rename_i h
        rw [if_pos h, List.drop_succ_cons, ih r (by omega)]
        omega
      · omega
theorem spn_more (p : Nat → Bool) (r : Bs) (k : Nat) (hk : k ≤ spn p r) (hl : k < r.length) (h : p (r.getD k 0).toNat = true) : k + 1 ≤ spn p r := by
  have e := spn_step p r k hk
  have hd : r.drop k = r[k] :: r.drop (k + 1) := List.drop_eq_getElem_cons hl
  have hg : r.getD k 0 = r[k] := by simp [List.getD, List.getElem?_eq_getElem hl]
  rw [hd, spn_cons, ← hg, if_pos h] at e
  omega
theorem spn_stop (p : Nat → Bool) (r : Bs) (k : Nat) (hk : k ≤ spn p r) (h : k < r.length → p (r.getD k 0).toNat = false) : k = spn p r := by
  have e := spn_step p r k hk
  by_cases hl : k < r.length
  · have hd : r.drop k = r[k] :: r.drop (k + 1) := List.drop_eq_getElem_cons hl
    have hg : r.getD k 0 = r[k] := by simp [List.getD, List.getElem?_eq_getElem hl]
    rw [hd, spn_cons, ← hg, if_neg (by rw [h hl]; exact Bool.false_ne_true)] at e
    omega
  · have := spn_le p r
    omega

/-! ### nx -/
theorem opOf_le (r : Bs) : opOf r ≤ r.length := by
  unfold opOf
  split
  · rename_i h
    simp [ops2] at h
    have : (r.take 2).length = 2 := by
      rcases h with h | h | h | h | h | h | h | h <;> (rw [h]; rfl)
    simp at this
    omega
  · split
    · rename_i h
      cases r with
      | nil => simp [ops1] at h
      | cons c r => simp
    · omega
theorem nx_bd (r : Bs) (h : (nx r).2.2 = 0) : 1 ≤ (nx r).2.1 ∧ (nx r).2.1 ≤ r.length := by
  unfold nx at h ⊢
  cases r with
  | nil => simp at h
  | cons c r =>
    have h1 := spn_le isLD (c :: r)
    have h2 := spn_le isD (c :: r)
    have h3 := spn_le notFeed (c :: r)
    have h4 := opOf_le (c :: r)
    simp only at h ⊢
    by_cases g1 : isL c.toNat = true
    · rw [if_pos g1] at h ⊢
      by_cases g2 : 32 < spn isLD (c :: r)
      · rw [if_pos g2] at h; simp at h
      · rw [if_neg g2]
        refine ⟨?_, h1⟩
        show 1 ≤ spn isLD (c :: r)
        rw [spn_cons, if_pos (by simp [isLD, g1])]; omega
    · rw [if_neg g1] at h ⊢
      by_cases g2 : isD c.toNat = true
      · rw [if_pos g2] at h ⊢
        split at h
        · rename_i g3
          rw [if_pos g3]
          refine ⟨?_, h2⟩
          show 1 ≤ spn isD (c :: r)
          rw [spn_cons, if_pos g2]; omega
        · simp at h
      · rw [if_neg g2] at h ⊢
        by_cases g3 : (c :: r).take 2 = [47, 47]
        · rw [if_pos g3]
          refine ⟨?_, h3⟩
          show 1 ≤ spn notFeed (c :: r)
          have : c = 47 := by
            cases r <;> simp at g3
            exact g3.1
          subst this
          rw [spn_cons, if_pos (by decide)]; omega
        · rw [if_neg g3] at h ⊢
          by_cases g4 : opOf (c :: r) = 0
          · rw [if_pos g4] at h; simp at h
          · rw [if_neg g4]
            exact ⟨by show 1 ≤ opOf (c :: r); omega, h4⟩

/-! ### go: any fuel that suffices serves -/
theorem go_fuel (f : Nat) : ∀ (g : Nat) (r : Bs) (a : Nat) (ins : Bool), r.length < f → r.length < g → go f r a ins = go g r a ins := by
  induction f with
  | zero => intro g r a ins h; omega
  | succ f ih =>
    intro g r a ins h1 h2
    cases g with
    | zero => omega
    | succ g =>
      cases r with
      | nil => rfl
      | cons c r =>
        simp only [List.length_cons] at h1 h2
        unfold go
        by_cases g1 : sep ins c.toNat = true
        · rw [if_pos g1, if_pos g1]; exact ih g r (a + 1) ins (by omega) (by omega)
        · rw [if_neg g1, if_neg g1]
          by_cases g2 : c.toNat = 10
          · rw [if_pos g2, if_pos g2, ih g r (a + 1) false (by omega) (by omega)]
          · rw [if_neg g2, if_neg g2]
            by_cases g3 : (nx (c :: r)).2.2 ≠ 0
            · rw [if_pos g3, if_pos g3]
            · rw [if_neg g3, if_neg g3]
              have hb := nx_bd (c :: r) (by simpa using g3)
              simp only
              rw [ih g _ _ _ (by rw [List.length_drop]; simp at *; omega) (by rw [List.length_drop]; simp at *; omega)]

/-- The tokens from r on, at whatever fuel suffices. -/
def toks (r : Bs) (a : Nat) (ins : Bool) : List Tok × Nat × Nat := go (r.length + 1) r a ins
theorem toks_nil (a : Nat) (ins : Bool) : toks [] a ins = ([], 0, 0) := rfl
theorem toks_sep {c : UInt8} {r : Bs} {a : Nat} {ins : Bool} (h : sep ins c.toNat = true) : toks (c :: r) a ins = toks r (a + 1) ins := by
  unfold toks
  rw [go, if_pos h]
  exact go_fuel _ _ _ _ _ (by simp) (by simp)
theorem toks_feed {c : UInt8} {r : Bs} {a : Nat} {ins : Bool} (h : sep ins c.toNat = false) (h2 : c.toNat = 10) : toks (c :: r) a ins = (⟨4, [59], a⟩ :: (toks r (a + 1) false).1, (toks r (a + 1) false).2) := by
  unfold toks
  rw [go, if_neg (by simp [h]), if_pos h2]
  rfl
theorem toks_err {c : UInt8} {r : Bs} {a : Nat} {ins : Bool} (h : sep ins c.toNat = false) (h2 : c.toNat ≠ 10) (h3 : (nx (c :: r)).2.2 ≠ 0) : toks (c :: r) a ins = ([], a, (nx (c :: r)).2.2) := by
  unfold toks
  rw [go, if_neg (by simp [h]), if_neg h2, if_pos h3]
theorem toks_tok {c : UInt8} {r : Bs} {a k n : Nat} {ins : Bool} (h : sep ins c.toNat = false) (h2 : c.toNat ≠ 10) (h3 : nx (c :: r) = (k, n, 0)) :
    toks (c :: r) a ins = (⟨k, (c :: r).take n, a⟩ :: (toks ((c :: r).drop n) (a + n) (if k = 5 then ins else endB k ((c :: r).take n))).1, (toks ((c :: r).drop n) (a + n) (if k = 5 then ins else endB k ((c :: r).take n))).2) := by
  have hb := nx_bd (c :: r) (by rw [h3])
  rw [h3] at hb
  simp only at hb
  unfold toks
  rw [go, if_neg (by simp [h]), if_neg h2, if_neg (by rw [h3]; simp), h3]
  simp only
  rw [go_fuel (c :: r).length (((c :: r).drop n).length + 1) _ _ _ (by rw [List.length_drop]; simp at *; omega) (by omega)]
theorem scanAll_eq (l : Bs) : scanAll l = toks l 0 false := rfl

/-- Skipping white space. -/
theorem toks_skip (m : Nat) : ∀ (r : Bs) (a : Nat) (ins : Bool), m ≤ spn (sep ins) r → toks r a ins = toks (r.drop m) (a + m) ins := by
  induction m with
  | zero => intro r a ins _; simp
  | succ m ih =>
    intro r a ins h
    cases r with
    | nil => simp [spn_nil] at h
    | cons c r =>
      rw [spn_cons] at h
      split at h
      · rename_i g
        rw [toks_sep g, ih r (a + 1) ins (by omega), List.drop_succ_cons]
        congr 1; omega
      · omega
end Go.Proofs.YtaalgkcbknlccaaDoor.M
