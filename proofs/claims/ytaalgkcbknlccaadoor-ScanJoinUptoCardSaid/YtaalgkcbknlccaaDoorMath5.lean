/-
  Plain mathematics: the tokens of a text that ends with a line feed, followed by another text.
-/
import Derived.Test.YtaalgkcbknlccaaDoorMath3
namespace Go.Proofs.YtaalgkcbknlccaaDoor.M
set_option linter.unusedVariables false

theorem spn_app (p : Nat → Bool) (r b : Bs) (h : ∃ c ∈ r, p c.toNat = false) : spn p (r ++ b) = spn p r ∧ spn p r < r.length := by
  induction r with
  | nil => obtain ⟨c, hc, _⟩ := h; cases hc
  | cons c r ih =>
    rw [List.cons_append, spn_cons, spn_cons]
    cases hp : p c.toNat with
    | false => simp
    | true =>
      have h2 : ∃ x ∈ r, p x.toNat = false := by
        obtain ⟨x, hx, hq⟩ := h
        rcases List.mem_cons.1 hx with rfl | hx
        · rw [hp] at hq; cases hq
        · exact ⟨x, hx, hq⟩
      obtain ⟨e, hl⟩ := ih h2
      simp [e]
      omega

theorem two_le {c : UInt8} {r : Bs} (h10 : c.toNat ≠ 10) (h : (10 : UInt8) ∈ c :: r) : ∃ d r', r = d :: r' := by
  cases r with
  | nil =>
    simp at h
    subst h
    exact absurd rfl h10
  | cons d r' => exact ⟨d, r', rfl⟩
theorem opOf_app (c d : UInt8) (r b : Bs) : opOf (c :: d :: r ++ b) = opOf (c :: d :: r) := by
  unfold opOf
  simp
theorem opOf_feed {r : Bs} (hr : (10 : UInt8) ∈ r) : opOf r < r.length ∨ opOf r = 0 := by
  unfold opOf
  split
  · rename_i h
    left
    simp [ops2] at h
    match r with
    | [] => simp at hr
    | [x] => simp at h
    | [x, y] =>
      exfalso
      simp at h hr
      rcases h with ⟨rfl, rfl⟩ | ⟨rfl, rfl⟩ | ⟨rfl, rfl⟩ | ⟨rfl, rfl⟩ | ⟨rfl, rfl⟩ | ⟨rfl, rfl⟩ | ⟨rfl, rfl⟩ | ⟨rfl, rfl⟩ <;> revert hr <;> decide
    | x :: y :: z :: q => simp
  · split
    · rename_i h
      left
      simp [ops1] at h
      match r with
      | [] => simp at hr
      | [x] =>
        exfalso
        simp at h hr
        subst hr
        revert h
        decide
      | x :: y :: q => simp
    · right; rfl

theorem hdL_app {x : Bs} (b : Bs) (h : x ≠ []) : hdL (x ++ b) = hdL x := by
  cases x with
  | nil => exact absurd rfl h
  | cons c x => rfl

/-- A token ends ahead of the line feed, whatever stands behind. -/
theorem nx_app {c : UInt8} {r : Bs} (b : Bs) (h10 : c.toNat ≠ 10) (h : (10 : UInt8) ∈ c :: r) :
    nx (c :: r ++ b) = nx (c :: r) ∧ ((nx (c :: r)).2.2 = 0 → (nx (c :: r)).2.1 < (c :: r).length) := by
  have a1 := spn_app isLD (c :: r) b ⟨10, h, by decide⟩
  have a2 := spn_app isD (c :: r) b ⟨10, h, by decide⟩
  have a3 := spn_app notFeed (c :: r) b ⟨10, h, by decide⟩
  have a4 := opOf_feed h
  obtain ⟨d, r', rfl⟩ := two_le h10 h
  have t1 : (c :: d :: r' ++ b).take (spn isLD (c :: d :: r')) = (c :: d :: r').take (spn isLD (c :: d :: r')) := List.take_append_of_le_length (by omega)
  have t2 : (c :: d :: r' ++ b).take (spn isD (c :: d :: r')) = (c :: d :: r').take (spn isD (c :: d :: r')) := List.take_append_of_le_length (by omega)
  have t3 : (c :: d :: r' ++ b).drop (spn isD (c :: d :: r')) = (c :: d :: r').drop (spn isD (c :: d :: r')) ++ b := List.drop_append_of_le_length (by omega)
  have t4 : hdL ((c :: d :: r').drop (spn isD (c :: d :: r')) ++ b) = hdL ((c :: d :: r').drop (spn isD (c :: d :: r'))) := hdL_app b (by
    intro e
    have := congrArg List.length e
    rw [List.length_drop] at this
    simp at this a2
    omega)
  have t5 := opOf_app c d r' b
  constructor
  · unfold nx
    simp only [List.cons_append] at *
    simp only [a1.1, a2.1, a3.1, t1, t2, t3, t4, t5, List.take_succ_cons, List.take_zero]
    rfl
  · intro he
    unfold nx at he ⊢
    simp only at he ⊢
    by_cases g1 : isL c.toNat = true
    · rw [if_pos g1] at he ⊢
      by_cases g2 : 32 < spn isLD (c :: d :: r')
      · rw [if_pos g2] at he; simp at he
      · rw [if_neg g2]; exact a1.2
    · rw [if_neg g1] at he ⊢
      by_cases g2 : isD c.toNat = true
      · rw [if_pos g2] at he ⊢
        split at he
        · rename_i g3
          rw [if_pos g3]; exact a2.2
        · simp at he
      · rw [if_neg g2] at he ⊢
        by_cases g3 : (c :: d :: r').take 2 = [47, 47]
        · rw [if_pos g3]; exact a3.2
        · rw [if_neg g3] at he ⊢
          by_cases g4 : opOf (c :: d :: r') = 0
          · rw [if_pos g4] at he; simp at he
          · rw [if_neg g4]
            rcases a4 with a4 | a4
            · exact a4
            · exact absurd a4 g4

theorem last_drop {r : Bs} {n : Nat} (h : r.getLast? = some 10) (hn : n < r.length) : (r.drop n).getLast? = some 10 := by
  rw [List.getLast?_drop, if_neg (by omega)]; exact h

/-- The tokens of a text that ends with a line feed stand whatever follows; what follows begins anew. -/
theorem toks_app (b : Bs) (r : Bs) (a : Nat) (ins : Bool) : (r = [] ∨ r.getLast? = some 10) → (toks r a ins).2.2 = 0 →
    toks (r ++ b) a ins = ((toks r a ins).1 ++ (toks b (a + r.length) (if r = [] then ins else false)).1, (toks b (a + r.length) (if r = [] then ins else false)).2) := by
  refine toks_ind (P := fun r a ins x => (r = [] ∨ r.getLast? = some 10) → x.2.2 = 0 → toks (r ++ b) a ins = (x.1 ++ (toks b (a + r.length) (if r = [] then ins else false)).1, (toks b (a + r.length) (if r = [] then ins else false)).2)) ?_ ?_ ?_ ?_ ?_ r a ins
  · intro a ins _ _; simp
  · intro c r a ins hs h hl he
    have hl2 : r = [] ∨ r.getLast? = some 10 := by
      cases r with
      | nil => exact .inl rfl
      | cons d r' => right; rcases hl with hl | hl; · cases hl
                     · simpa using hl
    have hi := h hl2 he
    rw [List.cons_append, toks_sep hs, hi]
    have e : a + 1 + r.length = a + (c :: r).length := by simp; omega
    rw [e]
    by_cases hr : r = []
    · subst hr
      have hc : c = 10 := by rcases hl with hl | hl; · cases hl
                             · simpa using hl
      subst hc
      have : ins = false := by unfold sep at hs; simpa using hs
      subst this
      simp
    · simp [hr]
  · intro c r a ins hs h10 h hl he
    have hl2 : r = [] ∨ r.getLast? = some 10 := by
      cases r with
      | nil => exact .inl rfl
      | cons d r' => right; rcases hl with hl | hl; · cases hl
                     · simpa using hl
    have hi := h hl2 he
    rw [List.cons_append, toks_feed hs h10, hi]
    have e : a + 1 + r.length = a + (c :: r).length := by simp; omega
    rw [e]
    by_cases hr : r = [] <;> simp [hr]
  · intro c r a ins _ _ h _ he; exact absurd he h
  · intro c r a ins k n hs h10 hx h1 h2 h hl he
    have hl3 : (c :: r).getLast? = some 10 := by rcases hl with hl | hl; · cases hl
                                                 · exact hl
    have hm : (10 : UInt8) ∈ c :: r := List.mem_of_getLast? hl3
    obtain ⟨e1, e2⟩ := nx_app b h10 hm
    have hlt : n < (c :: r).length := by rw [hx] at e2; exact e2 rfl
    rw [hx] at e1
    have hi := h (.inr (last_drop hl3 hlt)) he
    have hne : (c :: r).drop n ≠ [] := by
      intro e; have := congrArg List.length e; rw [List.length_drop] at this; simp at this hlt; omega
    have ht : (c :: r ++ b).take n = (c :: r).take n := List.take_append_of_le_length (by omega)
    have hd : (c :: r ++ b).drop n = (c :: r).drop n ++ b := List.drop_append_of_le_length (by omega)
    have hx2 : nx (c :: (r ++ b)) = (k, n, 0) := e1
    have := toks_tok (a := a) hs h10 hx2
    rw [← List.cons_append, ht, hd, hi, if_neg hne] at this
    have e : a + n + ((c :: r).drop n).length = a + (c :: r).length := by rw [List.length_drop]; omega
    rw [e] at this
    rw [if_neg (List.cons_ne_nil _ _), ← List.cons_append] at *
    exact this

/-- The same tokens, further on. -/
def shift (d : Nat) (t : Tok) : Tok := ⟨t.k, t.t, t.a + d⟩
theorem toks_shift (d : Nat) (r : Bs) (a : Nat) (ins : Bool) : (toks r (a + d) ins).1 = (toks r a ins).1.map (shift d) ∧ (toks r (a + d) ins).2.2 = (toks r a ins).2.2 := by
  refine toks_ind (P := fun r a ins x => (toks r (a + d) ins).1 = x.1.map (shift d) ∧ (toks r (a + d) ins).2.2 = x.2.2) ?_ ?_ ?_ ?_ ?_ r a ins
  · intro a ins; exact ⟨rfl, rfl⟩
  · intro c r a ins hs h
    rw [toks_sep hs, show a + d + 1 = a + 1 + d by omega]; exact h
  · intro c r a ins hs h10 h
    rw [toks_feed hs h10, show a + d + 1 = a + 1 + d by omega]
    exact ⟨by simp [h.1, shift], h.2⟩
  · intro c r a ins hs h10 he
    rw [toks_err hs h10 he]; exact ⟨rfl, rfl⟩
  · intro c r a ins k n hs h10 hx h1 h2 h
    rw [toks_tok hs h10 hx, show a + d + n = a + n + d by omega]
    exact ⟨by simp [h.1, shift], h.2⟩
end Go.Proofs.YtaalgkcbknlccaaDoor.M
