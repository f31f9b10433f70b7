/-
  Plain mathematics: tokens joined by blanks are the same tokens.
-/
import Derived.Test.YtaalgkcbknlccaaDoorMath6
namespace Go.Proofs.YtaalgkcbknlccaaDoor.M
set_option linter.unusedVariables false

/-- Nothing, or a blank. -/
def Stop (z : Bs) : Prop := z = [] ∨ ∃ q, z = 32 :: q
theorem spn_stop2 (p : Nat → Bool) (hq : p 32 = false) (x y z : Bs) (h : Stop z) (hx : spn p (x ++ y) = x.length) : spn p (x ++ z) = x.length := by
  induction x with
  | nil =>
    rcases h with rfl | ⟨q, rfl⟩
    · rfl
    · rw [List.nil_append, spn_cons, if_neg (by rw [show (32 : UInt8).toNat = 32 from rfl, hq]; decide)]; rfl
  | cons c x ih =>
    rw [List.cons_append, spn_cons] at hx ⊢
    split at hx
    · rename_i g
      rw [if_pos g]
      simp at hx ⊢
      exact ih hx
    · simp at hx
theorem nx_stop {c : UInt8} {x y z : Bs} {k n : Nat} (hx : nx (c :: x ++ y) = (k, n, 0)) (hn : n = (c :: x).length) (hk : k ≠ 5) (h : Stop z) : nx (c :: x ++ z) = (k, n, 0) := by
  unfold nx at hx ⊢
  simp only [List.cons_append] at hx ⊢
  by_cases g1 : isL c.toNat = true
  · rw [if_pos g1] at hx ⊢
    by_cases g2 : 32 < spn isLD (c :: (x ++ y))
    · rw [if_pos g2] at hx; simp at hx
    · rw [if_neg g2] at hx
      injection hx with hx1 hx2
      injection hx2 with hx2 _
      have e : spn isLD (c :: x ++ y) = (c :: x).length := by rw [← hn, ← hx2]; rfl
      have e2 := spn_stop2 isLD rfl (c :: x) y z h e
      have e' : spn isLD (c :: (x ++ y)) = (c :: x).length := e
      have e2' : spn isLD (c :: (x ++ z)) = (c :: x).length := e2
      simp only [e'] at hx1 g2
      simp only [e2']
      rw [if_neg g2]
      have t1 : (c :: (x ++ y)).take (c :: x).length = c :: x := by rw [← List.cons_append, List.take_left']; rfl
      have t2 : (c :: (x ++ z)).take (c :: x).length = c :: x := by rw [← List.cons_append, List.take_left']; rfl
      rw [t1] at hx1
      rw [t2, hx1, hn]
  · rw [if_neg g1] at hx ⊢
    by_cases g2 : isD c.toNat = true
    · rw [if_pos g2] at hx ⊢
      split at hx
      · rename_i g3
        injection hx with hx1 hx2
        injection hx2 with hx2 _
        have e : spn isD (c :: x ++ y) = (c :: x).length := by rw [← hn, ← hx2]; rfl
        have e2 := spn_stop2 isD rfl (c :: x) y z h e
        have e' : spn isD (c :: (x ++ y)) = (c :: x).length := e
        have e2' : spn isD (c :: (x ++ z)) = (c :: x).length := e2
        have t1 : (c :: (x ++ y)).take (c :: x).length = c :: x := by rw [← List.cons_append, List.take_left']; rfl
        have t2 : (c :: (x ++ z)).take (c :: x).length = c :: x := by rw [← List.cons_append, List.take_left']; rfl
        have d2 : (c :: (x ++ z)).drop (c :: x).length = z := by rw [← List.cons_append, List.drop_left']; rfl
        rw [e', t1] at g3
        rw [e2', t2, d2]
        simp only [Bool.and_eq_true, Bool.not_eq_true'] at g3
        have hz : hdL z = false := by rcases h with rfl | ⟨q, rfl⟩ <;> rfl
        rw [if_pos (by simp only [Bool.and_eq_true, Bool.not_eq_true']; exact ⟨g3.1, hz⟩), hx1, hn]
      · simp at hx
    · rw [if_neg g2] at hx ⊢
      by_cases g3 : (c :: (x ++ y)).take 2 = [47, 47]
      · rw [if_pos g3] at hx
        injection hx with hx1 _
        exact absurd hx1.symm hk
      · rw [if_neg g3] at hx
        by_cases g4 : opOf (c :: (x ++ y)) = 0
        · rw [if_pos g4] at hx; simp at hx
        · rw [if_neg g4] at hx
          injection hx with hx1 hx2
          injection hx2 with hx2 _
          have key : (c :: (x ++ z)).take 2 ≠ [47, 47] ∧ opOf (c :: (x ++ z)) = n := by
            cases x with
            | nil =>
              simp only [List.nil_append] at *
              simp at hn
              subst hn
              have h1 : ops1.contains [c] = true := by
                unfold opOf at hx2
                split at hx2
                · omega
                · split at hx2
                  · rename_i q; simpa using q
                  · omega
              have h2 : ops2.contains ((c :: z).take 2) = false := by
                rcases h with rfl | ⟨q, rfl⟩
                · rw [← Bool.not_eq_true]; intro g; have := ops2_len g; simp at this
                · exact (ops2_no c).2
              refine ⟨?_, ?_⟩
              · rcases h with rfl | ⟨q, rfl⟩ <;> simp
              · unfold opOf
                rw [h2]
                simp only [List.take_succ_cons, List.take_zero, h1]
                rfl
            | cons d x =>
              refine ⟨by simpa using g3, ?_⟩
              rw [← hx2]
              unfold opOf
              simp
          rw [if_neg key.1, if_neg (by rw [key.2, ← hx2]; exact g4), key.2, hx1]

/-- What stands alone is read as this token. -/
def Alone (t : Tok) : Prop := t.k ≠ 5 ∧ ∃ c x, t.t = c :: x ∧ (∀ ins, sep ins c.toNat = false) ∧ c.toNat ≠ 10 ∧ ∀ z, Stop z → nx (c :: x ++ z) = (t.k, (c :: x).length, 0)
theorem sep_any {c : UInt8} {ins : Bool} (h : sep ins c.toNat = false) (h10 : c.toNat ≠ 10) : ∀ i, sep i c.toNat = false := by
  intro i
  unfold sep at h ⊢
  have : (c.toNat == 10) = false := by simpa using h10
  rw [this] at h ⊢
  simpa using h
theorem alone_toks (r : Bs) (a : Nat) (ins : Bool) : ∀ t ∈ (toks r a ins).1.filter fn, Alone t := by
  refine toks_ind (P := fun r a ins x => ∀ t ∈ x.1.filter fn, Alone t) ?_ ?_ ?_ ?_ ?_ r a ins
  · intro a ins t ht; cases ht
  · intro c r a ins _ h; exact h
  · intro c r a ins _ _ h t ht
    have e2 : ((⟨4, [59], a⟩ :: (toks r (a + 1) false).1 : List Tok)).filter fn = ⟨4, [59], a⟩ :: (toks r (a + 1) false).1.filter fn := by rw [List.filter_cons, if_pos (by simp [fn])]
    have ht' : t ∈ ((⟨4, [59], a⟩ :: (toks r (a + 1) false).1 : List Tok)).filter fn := ht
    rw [e2] at ht'
    rcases List.mem_cons.1 ht' with rfl | ht'
    · refine ⟨(fun h => by cases h), 59, [], rfl, fun i => by cases i <;> rfl, by decide, ?_⟩
      have h0 : nx (59 :: [] ++ []) = (4, 1, 0) := by decide
      exact fun z hz => nx_stop h0 rfl (fun h => by cases h) hz
    · exact h t ht'
  · intro c r a ins _ _ _ t ht; cases ht
  · intro c r a ins k n hs h10 hx h1 h2 h t ht
    generalize toks ((c :: r).drop n) (a + n) (if k = 5 then ins else endB k ((c :: r).take n)) = x at *
    by_cases hk : k = 5
    · have e2 : ((⟨k, (c :: r).take n, a⟩ :: x.1 : List Tok)).filter fn = x.1.filter fn := by rw [List.filter_cons, if_neg (by simp [fn, hk])]
      have ht' : t ∈ ((⟨k, (c :: r).take n, a⟩ :: x.1 : List Tok)).filter fn := ht
      rw [e2] at ht'
      exact h t ht'
    · have e2 : ((⟨k, (c :: r).take n, a⟩ :: x.1 : List Tok)).filter fn = ⟨k, (c :: r).take n, a⟩ :: x.1.filter fn := by rw [List.filter_cons, if_pos (by simp [fn, hk])]
      have ht' : t ∈ ((⟨k, (c :: r).take n, a⟩ :: x.1 : List Tok)).filter fn := ht
      rw [e2] at ht'
      rcases List.mem_cons.1 ht' with rfl | ht'
      · obtain ⟨m, rfl⟩ : ∃ m, n = m + 1 := ⟨n - 1, by omega⟩
        have hlm : (r.take m).length = m := by simp at h2 ⊢; omega
        refine ⟨hk, c, r.take m, by show (c :: r).take (m + 1) = _; rw [List.take_succ_cons], sep_any hs h10, h10, fun z hz => ?_⟩
        have hx' : nx (c :: r.take m ++ r.drop m) = (k, m + 1, 0) := by rw [List.cons_append, List.take_append_drop]; exact hx
        have := nx_stop hx' (by simp [hlm]) hk hz
        rw [this]
        simp [hlm]
      · exact h t ht'

/-- Texts with a blank between each two. -/
def joinL : List Bs → Bs
  | [] => []
  | [x] => x
  | x :: y :: r => x ++ 32 :: joinL (y :: r)
def kt (t : Tok) : Nat × Bs := (t.k, t.t)
theorem join_toks (L : List Tok) (h : ∀ t ∈ L, Alone t) : ∀ a ins, ((toks (joinL (L.map (·.t))) a ins).1.map kt = L.map kt) ∧ (toks (joinL (L.map (·.t))) a ins).2 = (0, 0) := by
  induction L with
  | nil => intro a ins; exact ⟨rfl, rfl⟩
  | cons t L ih =>
    intro a ins
    obtain ⟨hk, c, x, ht, hs, h10, hn⟩ := h t (List.mem_cons_self ..)
    have ih := ih (fun u hu => h u (List.mem_cons_of_mem _ hu))
    cases L with
    | nil =>
      show (toks t.t a ins).1.map kt = [kt t] ∧ (toks t.t a ins).2 = (0, 0)
      have h0 := hn [] (.inl rfl)
      rw [List.append_nil] at h0
      rw [ht, toks_tok (hs ins) h10 h0, List.take_length, List.drop_length, toks_nil]
      exact ⟨by simp [kt, ht], rfl⟩
    | cons u L =>
      have e : joinL ((t :: u :: L).map (·.t)) = c :: x ++ 32 :: joinL ((u :: L).map (·.t)) := by rw [← ht]; rfl
      have h0 := hn (32 :: joinL ((u :: L).map (·.t))) (.inr ⟨_, rfl⟩)
      rw [e]
      generalize joinL ((u :: L).map (·.t)) = z at *
      have h0' : nx (c :: (x ++ 32 :: z)) = (t.k, (c :: x).length, 0) := h0
      rw [List.cons_append, toks_tok (hs ins) h10 h0', ← List.cons_append, List.take_left' rfl, List.drop_left' rfl, if_neg hk, toks_sep (sep_blank _)]
      obtain ⟨i1, i2⟩ := ih (a + (c :: x).length + 1) (endB t.k (c :: x))
      refine ⟨?_, i2⟩
      rw [List.map_cons, i1]
      rw [List.map_cons (f := kt) (a := t)]
      congr 1
      simp [kt, ht]
theorem joinL_snoc (l : List Bs) (x : Bs) : joinL (l ++ [x]) = joinL l ++ (if l = [] then [] else [32]) ++ x := by
  induction l with
  | nil => rfl
  | cons y l ih =>
    cases l with
    | nil => simp [joinL]
    | cons z l =>
      have e : joinL (y :: z :: l ++ [x]) = y ++ 32 :: joinL (z :: l ++ [x]) := rfl
      rw [e, ih]
      simp [joinL]
theorem joinL_len (l : List Bs) : (joinL l).length ≤ (l.map (·.length)).sum + l.length := by
  induction l with
  | nil => simp [joinL]
  | cons x l ih =>
    cases l with
    | nil => simp [joinL]
    | cons y l =>
      have e : joinL (x :: y :: l) = x ++ 32 :: joinL (y :: l) := rfl
      rw [e]
      simp at ih ⊢
      omega

theorem toks_sum (r : Bs) (a : Nat) (ins : Bool) : ((toks r a ins).1.map fun t => t.t.length).sum ≤ r.length := by
  refine toks_ind (P := fun r a ins x => (x.1.map fun t => t.t.length).sum ≤ r.length) ?_ ?_ ?_ ?_ ?_ r a ins
  · intro a ins; simp
  · intro c r a ins _ h; simp at h ⊢; omega
  · intro c r a ins _ _ h; simp at h ⊢; omega
  · intro c r a ins _ _ _; simp
  · intro c r a ins k n _ _ _ h1 h2 h; simp at h h2 ⊢; omega
theorem sum_filter (L : List Tok) (p : Tok → Bool) : ((L.filter p).map fun t => t.t.length).sum ≤ (L.map fun t => t.t.length).sum := by
  induction L with
  | nil => simp
  | cons t L ih =>
    rw [List.filter_cons]
    split
    · simp; omega
    · simp; omega

/-- An accepted text's tokens, joined, are accepted, and are the same. -/
theorem join_scan {l : Bs} (hl : l.length ≤ 300) (he : scanE l = 0) :
    ∃ M, scanL (joinL ((scanL l).map (·.t))) = M ∧ M.map kt = (scanL l).map kt ∧ scanE (joinL ((scanL l).map (·.t))) = 0 ∧ scanA (joinL ((scanL l).map (·.t))) = 0 ∧ (scanL l).length ≤ 300 ∧ (((scanL l).map (·.t)).map (·.length)).sum ≤ 300 := by
  have r1 : scanR l = toks l 0 false := by unfold scanR; rw [if_neg (by omega), scanAll_eq]
  have hL : scanL l = (toks l 0 false).1.filter fn := by
    unfold scanE at he
    unfold scanL
    rw [if_pos he, r1]; rfl
  have ha := alone_toks l 0 false
  rw [← hL] at ha
  obtain ⟨j1, j2⟩ := join_toks (scanL l) ha 0 false
  have hs1 := toks_sum l 0 false
  have hs2 := sum_filter (toks l 0 false).1 fn
  rw [← hL] at hs2
  have hs3 : (((scanL l).map (·.t)).map (·.length)).sum = ((scanL l).map fun t => t.t.length).sum := by rw [List.map_map]; rfl
  have hlen : (scanL l).length ≤ 300 := by
    have := toks_len l 0 false
    have h2 := List.length_filter_le fn (toks l 0 false).1
    rw [← hL] at h2
    omega
  have hJ := joinL_len ((scanL l).map (·.t))
  rw [hs3, List.length_map] at hJ
  have r2 : scanR (joinL ((scanL l).map (·.t))) = toks (joinL ((scanL l).map (·.t))) 0 false := by unfold scanR; rw [if_neg (by omega), scanAll_eq]
  have hE : scanE (joinL ((scanL l).map (·.t))) = 0 := by unfold scanE; rw [r2, j2]
  have hA := scanA_zero _ hE
  refine ⟨_, rfl, ?_, hE, hA, hlen, by omega⟩
  have hall : (toks (joinL ((scanL l).map (·.t))) 0 false).1.filter (fun t => !(t.k == 5)) = (toks (joinL ((scanL l).map (·.t))) 0 false).1 := by
    refine List.filter_eq_self.2 (fun t ht => ?_)
    have hm : kt t ∈ (scanL l).map kt := by rw [← j1]; exact List.mem_map_of_mem ht
    obtain ⟨u, hu, e⟩ := List.mem_map.1 hm
    have hk := (ha u hu).1
    have e1 : u.k = t.k := congrArg Prod.fst e
    rw [e1] at hk
    simpa using hk
  have hE2 := hE
  unfold scanE at hE2
  have e : scanL (joinL ((scanL l).map (·.t))) = (toks (joinL ((scanL l).map (·.t))) 0 false).1 := by
    rw [← hall, ← r2]
    exact if_pos hE2
  rw [e]
  exact j1
end Go.Proofs.YtaalgkcbknlccaaDoor.M
