/-
  Plain mathematics: a text whose comments are blanks has the same tokens; a text of blanks and a name.
-/
import Derived.Test.YtaalgkcbknlccaaDoorMath3
namespace Go.Proofs.YtaalgkcbknlccaaDoor.M
set_option linter.unusedVariables false

/-! ### Blanks and a name -/
theorem nx_name {c : UInt8} (h : isL c.toNat = true) : nx [c] = (1, 1, 0) := by
  have hs : spn isLD [c] = 1 := by rw [spn_cons, if_pos (by simp [isLD, h])]; rfl
  unfold nx
  simp only
  rw [if_pos h, hs, if_neg (by omega)]
  have hk : kw ([c].take 1) = false := by simp [kw, kwList]
  rw [hk]; rfl
theorem sep_blank (ins : Bool) : sep ins (32 : UInt8).toNat = true := by cases ins <;> rfl
theorem spn_reps (p : Nat → Bool) (n : Nat) (c : UInt8) (r : Bs) (h : p c.toNat = true) : n ≤ spn p (List.replicate n c ++ r) := by
  induction n with
  | zero => omega
  | succ n ih => rw [List.replicate_succ, List.cons_append, spn_cons, if_pos h]; omega
theorem toks_blanks (n : Nat) (r : Bs) (a : Nat) (ins : Bool) : toks (List.replicate n 32 ++ r) a ins = toks r (a + n) ins := by
  rw [toks_skip n _ a ins (spn_reps _ n 32 r (sep_blank ins))]
  congr 1
  rw [List.drop_append_of_le_length (by simp), List.drop_of_length_le (by simp)]; rfl
theorem isL_range {c : UInt8} (h : 97 ≤ c.toNat) (h2 : c.toNat ≤ 122) : isL c.toNat = true := by unfold isL; simp; omega
theorem not_sep {c : UInt8} {ins : Bool} (h : 97 ≤ c.toNat) : sep ins c.toNat = false := by
  have h1 : (c.toNat == 32) = false := by simp; omega
  have h2 : (c.toNat == 9) = false := by simp; omega
  have h3 : (c.toNat == 13) = false := by simp; omega
  have h4 : (c.toNat == 10) = false := by simp; omega
  unfold sep; rw [h1, h2, h3, h4]; rfl
theorem toks_name {c : UInt8} (a : Nat) (h : 97 ≤ c.toNat) (h2 : c.toNat ≤ 122) : toks [c] a false = ([⟨1, [c], a⟩], 0, 0) := by
  rw [toks_tok (not_sep h) (by omega) (nx_name (isL_range h h2))]
  rfl

/-- Blanks and a name. -/
def longT (n : Nat) (c : UInt8) : Bs := List.replicate n 32 ++ [c]
theorem longT_len (n : Nat) (c : UInt8) : (longT n c).length = n + 1 := by simp [longT]
theorem long_ok {n : Nat} {c : UInt8} (h : 97 ≤ c.toNat) (h2 : c.toNat ≤ 122) (hn : n + 1 ≤ 20000) : scanL (longT n c) = [⟨1, [c], n⟩] ∧ scanE (longT n c) = 0 := by
  have r : scanR (longT n c) = ([⟨1, [c], n⟩], 0, 0) := by
    unfold scanR
    rw [if_neg (by rw [longT_len]; omega), scanAll_eq]
    unfold longT
    rw [toks_blanks, toks_name _ h h2]
    simp
  unfold scanL scanE
  rw [r]
  exact ⟨rfl, rfl⟩
theorem long_no {l : Bs} (hn : 20000 < l.length) : scanL l = [] ∧ scanA l = 0 ∧ scanE l = 3 ∧ comL l = [] := by
  have r : scanR l = ([], 0, 3) := by unfold scanR; rw [if_pos hn]
  unfold scanL scanE scanA comL
  rw [r]
  exact ⟨rfl, rfl, rfl, rfl⟩
theorem spn_full (p : Nat → Bool) (r : Bs) (h : ∀ c ∈ r, p c.toNat = true) : spn p r = r.length := by
  induction r with
  | nil => rfl
  | cons c r ih => rw [spn_cons, if_pos (h c (List.mem_cons_self ..)), ih (fun x hx => h x (List.mem_cons_of_mem _ hx))]; rfl
theorem com_long {n : Nat} {c : UInt8} (h : 97 ≤ c.toNat) (hn : n + 3 ≤ 20000) : comL (47 :: 47 :: longT n c) = [⟨5, 47 :: 47 :: longT n c, 0⟩] := by
  have hall : spn notFeed (47 :: 47 :: longT n c) = (47 :: 47 :: longT n c).length := spn_full _ _ (by
    intro x hx
    simp only [longT, List.mem_cons, List.mem_append, List.mem_replicate, List.not_mem_nil, or_false] at hx
    unfold notFeed
    rcases hx with rfl | rfl | ⟨_, rfl⟩ | rfl
    · rfl
    · rfl
    · rfl
    · simp; omega)
  have hx : nx (47 :: 47 :: longT n c) = (5, (47 :: 47 :: longT n c).length, 0) := by
    unfold nx
    simp only
    rw [if_neg (by decide), if_neg (by decide), if_pos (show (47 :: 47 :: longT n c).take 2 = [47, 47] from rfl), hall]
  have r : scanR (47 :: 47 :: longT n c) = ([⟨5, 47 :: 47 :: longT n c, 0⟩], 0, 0) := by
    unfold scanR
    rw [if_neg (by simp [longT_len]; omega), scanAll_eq, toks_tok (by rfl) (by decide) hx, List.take_length, List.drop_length, toks_nil]
  unfold comL
  rw [r]
  rfl

/-! ### Comments as blanks -/
def cov (L : List Tok) (i : Nat) : Bool := L.any fun t => decide (t.a ≤ i) && decide (i < t.a + t.t.length)
theorem cov_iff {L : List Tok} {i : Nat} : cov L i = true ↔ ∃ t ∈ L, t.a ≤ i ∧ i < t.a + t.t.length := by simp [cov]
/-- The bytes from offset a on, where what L covers is blank. -/
def blk (L : List Tok) : Nat → Bs → Bs
  | _, [] => []
  | a, c :: r => (if cov L a then 32 else c) :: blk L (a + 1) r
theorem blk_len (L : List Tok) (r : Bs) : ∀ a, (blk L a r).length = r.length := by
  induction r with
  | nil => intro a; rfl
  | cons c r ih => intro a; simp [blk, ih]
theorem blk_id (L : List Tok) (r : Bs) : ∀ a, (∀ i, a ≤ i → i < a + r.length → cov L i = false) → blk L a r = r := by
  induction r with
  | nil => intro a _; rfl
  | cons c r ih =>
    intro a h
    rw [blk, h a (Nat.le_refl _) (by simp), ih (a + 1) (fun i h1 h2 => h i (by omega) (by simp; omega))]
    rfl
theorem blk_congr (L M : List Tok) (r : Bs) : ∀ a, (∀ i, a ≤ i → i < a + r.length → cov L i = cov M i) → blk L a r = blk M a r := by
  induction r with
  | nil => intro a _; rfl
  | cons c r ih =>
    intro a h
    rw [blk, blk, h a (Nat.le_refl _) (by simp), ih (a + 1) (fun i h1 h2 => h i (by omega) (by simp; omega))]
theorem blk_all (L : List Tok) (r : Bs) : ∀ a, (∀ i, a ≤ i → i < a + r.length → cov L i = true) → blk L a r = List.replicate r.length 32 := by
  induction r with
  | nil => intro a _; rfl
  | cons c r ih =>
    intro a h
    rw [blk, h a (Nat.le_refl _) (by simp), ih (a + 1) (fun i h1 h2 => h i (by omega) (by simp; omega))]
    rfl
theorem blk_app (L : List Tok) (r s : Bs) : ∀ a, blk L a (r ++ s) = blk L a r ++ blk L (a + r.length) s := by
  induction r with
  | nil => intro a; simp [blk]
  | cons c r ih => intro a; simp [blk, ih, Nat.add_assoc, Nat.add_comm 1]

/-- What follows a token: the same byte, or a blank for a comment. -/
def Nxt (y z : Bs) : Prop := z.head? = y.head? ∨ (∃ q, y = 47 :: 47 :: q) ∧ ∃ q, z = 32 :: q
theorem spn_nxt (p : Nat → Bool) (hp : p 47 = false) (hq : p 32 = false) (x y z : Bs) (h : Nxt y z) (hx : spn p (x ++ y) = x.length) : spn p (x ++ z) = x.length := by
  induction x with
  | nil =>
    simp at hx ⊢
    cases z with
    | nil => rfl
    | cons d z =>
      rw [spn_cons]
      rcases h with h | ⟨⟨q, rfl⟩, ⟨q', h⟩⟩
      · cases y with
        | nil => simp at h
        | cons e y =>
          simp at h
          subst h
          rw [spn_cons] at hx
          split at hx
          · omega
          · rename_i g; rw [if_neg g]
      · injection h with h1 h2
        subst h1
        rw [if_neg (by rw [show (32 : UInt8).toNat = 32 from rfl, hq]; decide)]
  | cons c x ih =>
    rw [List.cons_append, spn_cons] at hx ⊢
    split at hx
    · rename_i g
      rw [if_pos g]
      simp at hx ⊢
      exact ih hx
    · simp at hx
theorem spn_take (p : Nat → Bool) (r : Bs) : (r.take (spn p r)).length = spn p r := by have := spn_le p r; simp; omega
theorem hdL_nxt {y z : Bs} (h : Nxt y z) (hy : hdL y = false) : hdL z = false := by
  rcases h with h | ⟨⟨q, rfl⟩, ⟨q', rfl⟩⟩
  · cases z with
    | nil => rfl
    | cons d z =>
      cases y with
      | nil => simp at h
      | cons e y => simp at h; subst h; exact hy
  · rfl
theorem two_nxt {c : UInt8} {y z : Bs} (h : Nxt y z) : (c :: z).take 2 = (c :: y).take 2 ∨ (c :: y).take 2 = [c, 47] ∧ (c :: z).take 2 = [c, 32] := by
  rcases h with h | ⟨⟨q, rfl⟩, ⟨q', rfl⟩⟩
  · left
    cases z with
    | nil => cases y with
      | nil => rfl
      | cons e y => simp at h
    | cons d z => cases y with
      | nil => simp at h
      | cons e y => simp at h; subst h; rfl
  · right; exact ⟨rfl, rfl⟩
theorem ops2_len {p : Bs} (h : ops2.contains p = true) : p.length = 2 := by
  simp [ops2] at h
  rcases h with h | h | h | h | h | h | h | h <;> (rw [h]; rfl)
theorem ops2_no (c : UInt8) : ops2.contains [c, 47] = false ∧ ops2.contains [c, 32] = false := by
  constructor <;> (rw [← Bool.not_eq_true]; intro h; simp [ops2] at h)

theorem nx_nxt {c : UInt8} {x y z : Bs} {k n : Nat} (hx : nx (c :: x ++ y) = (k, n, 0)) (hn : n = (c :: x).length) (hk : k ≠ 5) (h : Nxt y z) : nx (c :: x ++ z) = (k, n, 0) := by
  unfold nx at hx ⊢
  simp only [List.cons_append] at hx ⊢
  by_cases g1 : isL c.toNat = true
  · rw [if_pos g1] at hx ⊢
    by_cases g2 : 32 < spn isLD (c :: (x ++ y))
    · rw [if_pos g2] at hx; simp at hx
    · rw [if_neg g2] at hx
      injection hx with hx1 hx2
      injection hx2 with hx2 _
      have e : spn isLD (c :: x ++ y) = (c :: x).length := by rw [← hn, ← hx2]; rfl
      have e2 := spn_nxt isLD rfl rfl (c :: x) y z h e
      have e' : spn isLD (c :: (x ++ y)) = (c :: x).length := e
      have e2' : spn isLD (c :: (x ++ z)) = (c :: x).length := e2
      simp only [e'] at hx1 g2
      simp only [e2']
      rw [if_neg g2]
      have t1 : (c :: (x ++ y)).take (c :: x).length = c :: x := by rw [← List.cons_append, List.take_left']; rfl
      have t2 : (c :: (x ++ z)).take (c :: x).length = c :: x := by rw [← List.cons_append, List.take_left']; rfl
      rw [t1] at hx1
      rw [t2, hx1, hn]
  · rw [if_neg g1] at hx ⊢
    by_cases g2 : isD c.toNat = true
    · rw [if_pos g2] at hx ⊢
      split at hx
      · rename_i g3
        injection hx with hx1 hx2
        injection hx2 with hx2 _
        have e : spn isD (c :: x ++ y) = (c :: x).length := by rw [← hn, ← hx2]; rfl
        have e2 := spn_nxt isD rfl rfl (c :: x) y z h e
        have e' : spn isD (c :: (x ++ y)) = (c :: x).length := e
        have e2' : spn isD (c :: (x ++ z)) = (c :: x).length := e2
        have t1 : (c :: (x ++ y)).take (c :: x).length = c :: x := by rw [← List.cons_append, List.take_left']; rfl
        have t2 : (c :: (x ++ z)).take (c :: x).length = c :: x := by rw [← List.cons_append, List.take_left']; rfl
        have d1 : (c :: (x ++ y)).drop (c :: x).length = y := by rw [← List.cons_append, List.drop_left']; rfl
        have d2 : (c :: (x ++ z)).drop (c :: x).length = z := by rw [← List.cons_append, List.drop_left']; rfl
        rw [e', t1, d1] at g3
        rw [e2', t2, d2]
        simp only [Bool.and_eq_true, Bool.not_eq_true'] at g3
        rw [if_pos (by simp only [Bool.and_eq_true, Bool.not_eq_true']; exact ⟨g3.1, hdL_nxt h g3.2⟩), hx1, hn]
      · simp at hx
    · rw [if_neg g2] at hx ⊢
      by_cases g3 : (c :: (x ++ y)).take 2 = [47, 47]
      · rw [if_pos g3] at hx
        injection hx with hx1 _
        exact absurd hx1.symm hk
      · rw [if_neg g3] at hx
        by_cases g4 : opOf (c :: (x ++ y)) = 0
        · rw [if_pos g4] at hx; simp at hx
        · rw [if_neg g4] at hx
          injection hx with hx1 hx2
          injection hx2 with hx2 _
          have key : (c :: (x ++ z)).take 2 ≠ [47, 47] ∧ opOf (c :: (x ++ z)) = n := by
            cases x with
            | nil =>
              simp only [List.nil_append] at *
              simp at hn
              subst hn
              rcases two_nxt (c := c) h with t | ⟨t1, t2⟩
              · refine ⟨by rw [t]; exact g3, ?_⟩
                rw [← hx2]
                unfold opOf
                rw [t]
                rfl
              · refine ⟨by rw [t2]; intro q; simp at q, ?_⟩
                rw [← hx2]
                unfold opOf
                rw [t1, t2, (ops2_no c).1, (ops2_no c).2]
                rfl
            | cons d x =>
              refine ⟨by simpa using g3, ?_⟩
              rw [← hx2]
              unfold opOf
              simp
          rw [if_neg key.1, if_neg (by rw [key.2, ← hx2]; exact g4), key.2, hx1]

/-- A token that is a comment begins so. -/
theorem nx_com {c : UInt8} {r : Bs} {n : Nat} (h : nx (c :: r) = (5, n, 0)) : ∃ q, c :: r = 47 :: 47 :: q := by
  unfold nx at h
  simp only at h
  by_cases g1 : isL c.toNat = true
  · rw [if_pos g1] at h
    split at h
    · simp at h
    · split at h <;> simp at h
  · rw [if_neg g1] at h
    by_cases g2 : isD c.toNat = true
    · rw [if_pos g2] at h
      split at h <;> simp at h
    · rw [if_neg g2] at h
      by_cases g3 : (c :: r).take 2 = [47, 47]
      · cases r with
        | nil => simp at g3
        | cons d r =>
          simp at g3
          obtain ⟨rfl, rfl⟩ := g3
          exact ⟨r, rfl⟩
      · rw [if_neg g3] at h
        split at h <;> simp at h

def fc (t : Tok) : Bool := t.k == 5
def fn (t : Tok) : Bool := !(t.k == 5)
structure BlkOk (r : Bs) (a : Nat) (ins : Bool) (x : List Tok × Nat × Nat) : Prop where
  lo : ∀ t ∈ x.1, a ≤ t.a
  hi : ∀ t ∈ x.1.filter fc, t.a + t.t.length ≤ a + r.length
  hd : cov (x.1.filter fc) a = true → ∃ q, r = 47 :: 47 :: q
  tk : toks (blk (x.1.filter fc) a r) a ins = (x.1.filter fn, x.2)
theorem cov_lo {L : List Tok} {a i : Nat} (h : ∀ t ∈ L, a ≤ t.a) (hi : i < a) : cov L i = false := by
  rw [← Bool.not_eq_true, cov_iff]
  rintro ⟨t, ht, h1, h2⟩
  have := h t ht
  omega
theorem blk_nxt {L : List Tok} {a : Nat} {y : Bs} (h : cov L a = true → ∃ q, y = 47 :: 47 :: q) : Nxt y (blk L a y) := by
  cases y with
  | nil => exact .inl rfl
  | cons c y =>
    cases hc : cov L a with
    | false => left; simp [blk, hc]
    | true => right; exact ⟨h hc, _, by rw [blk, hc, if_pos rfl]⟩

theorem blk_ok (r : Bs) (a : Nat) (ins : Bool) : BlkOk r a ins (toks r a ins) := by
  refine toks_ind (P := BlkOk) ?_ ?_ ?_ ?_ ?_ r a ins
  · intro a ins
    exact ⟨(fun t ht => by cases ht), (fun t ht => by cases ht), (by intro h; cases h), rfl⟩
  · intro c r a ins hs h
    have hlo : ∀ t ∈ ((toks r (a + 1) ins).1.filter fc), a + 1 ≤ t.a := fun t ht => h.lo t (List.mem_filter.1 ht).1
    have h0 : cov ((toks r (a + 1) ins).1.filter fc) a = false := cov_lo hlo (by omega)
    refine ⟨(fun t ht => by have := h.lo t ht; omega), (fun t ht => by have := h.hi t ht; simp; omega), (by rw [h0]; intro q; cases q), ?_⟩
    rw [blk, h0]
    rw [if_neg (by decide), toks_sep hs]
    exact h.tk
  · intro c r a ins hs h10 h
    have e : ((⟨4, [59], a⟩ :: (toks r (a + 1) false).1 : List Tok)).filter fc = (toks r (a + 1) false).1.filter fc := by rw [List.filter_cons, if_neg (by simp [fc])]
    have e2 : ((⟨4, [59], a⟩ :: (toks r (a + 1) false).1 : List Tok)).filter fn = ⟨4, [59], a⟩ :: (toks r (a + 1) false).1.filter fn := by rw [List.filter_cons, if_pos (by simp [fn])]
    have hlo : ∀ t ∈ ((toks r (a + 1) false).1.filter fc), a + 1 ≤ t.a := fun t ht => h.lo t (List.mem_filter.1 ht).1
    have h0 : cov ((toks r (a + 1) false).1.filter fc) a = false := cov_lo hlo (by omega)
    refine ⟨fun t ht => ?_, ?_, ?_, ?_⟩
    · rcases List.mem_cons.1 ht with rfl | ht
      · exact Nat.le_refl _
      · have := h.lo t ht; omega
    · show ∀ t ∈ List.filter fc (_ :: _), _
      rw [e]
      intro t ht; have := h.hi t ht; simp; omega
    · show cov (List.filter fc (_ :: _)) a = true → _
      rw [e, h0]; intro q; cases q
    · show toks (blk (List.filter fc (_ :: _)) a _) a ins = (List.filter fn (_ :: _), _)
      rw [e, e2, blk, h0, if_neg (by decide), toks_feed hs h10, h.tk]
  · intro c r a ins hs h10 he
    refine ⟨(fun t ht => by cases ht), (fun t ht => by cases ht), (by intro h; cases h), ?_⟩
    show toks (blk [] a (c :: r)) a ins = _
    rw [blk_id [] (c :: r) a (fun _ _ _ => rfl), toks_err hs h10 he]
    rfl
  · intro c r a ins k n hs h10 hx h1 h2 h
    generalize hT : toks ((c :: r).drop n) (a + n) (if k = 5 then ins else endB k ((c :: r).take n)) = x at *
    have hlen : ((c :: r).take n).length = n := by simp at h2 ⊢; omega
    have hlo : ∀ t ∈ x.1.filter fc, a + n ≤ t.a := fun t ht => h.lo t (List.mem_filter.1 ht).1
    have hdl : ((c :: r).drop n).length = (c :: r).length - n := by simp
    have hsplit : c :: r = (c :: r).take n ++ (c :: r).drop n := (List.take_append_drop n (c :: r)).symm
    by_cases hk : k = 5
    · subst hk
      rw [if_pos rfl] at h hT
      have e : ((⟨5, (c :: r).take n, a⟩ :: x.1 : List Tok)).filter fc = ⟨5, (c :: r).take n, a⟩ :: x.1.filter fc := by rw [List.filter_cons, if_pos (by simp [fc])]
      have e2 : ((⟨5, (c :: r).take n, a⟩ :: x.1 : List Tok)).filter fn = x.1.filter fn := by rw [List.filter_cons, if_neg (by simp [fn])]
      refine ⟨fun t ht => ?_, ?_, ?_, ?_⟩
      · rcases List.mem_cons.1 ht with rfl | ht
        · exact Nat.le_refl _
        · have := h.lo t ht; omega
      · show ∀ t ∈ List.filter fc (_ :: _), _
        rw [e]
        intro t ht
        rcases List.mem_cons.1 ht with rfl | ht
        · show a + ((c :: r).take n).length ≤ _; rw [hlen]; omega
        · have := h.hi t ht; rw [hdl] at this; omega
      · intro _; exact nx_com hx
      · show toks (blk (List.filter fc (_ :: _)) a _) a ins = (List.filter fn (_ :: _), _)
        rw [e, e2]
        have hb1 : blk (⟨5, (c :: r).take n, a⟩ :: x.1.filter fc) a ((c :: r).take n) = List.replicate n 32 := by
          rw [blk_all, hlen]
          intro i hi1 hi2
          exact cov_iff.2 ⟨_, List.mem_cons_self .., hi1, hi2⟩
        have hb2 : blk (⟨5, (c :: r).take n, a⟩ :: x.1.filter fc) (a + n) ((c :: r).drop n) = blk (x.1.filter fc) (a + n) ((c :: r).drop n) := blk_congr _ _ _ _ (fun i hi1 hi2 => by
          rw [Bool.eq_iff_iff, cov_iff, cov_iff]
          constructor
          · rintro ⟨t, ht, g1, g2⟩
            rcases List.mem_cons.1 ht with rfl | ht
            · have g2' : i < a + ((c :: r).take n).length := g2
              rw [hlen] at g2'; omega
            · exact ⟨t, ht, g1, g2⟩
          · rintro ⟨t, ht, g⟩
            exact ⟨t, List.mem_cons_of_mem _ ht, g⟩)
        have hb : blk (⟨5, (c :: r).take n, a⟩ :: x.1.filter fc) a (c :: r) = List.replicate n 32 ++ blk (x.1.filter fc) (a + n) ((c :: r).drop n) := by
          conv => lhs; rw [hsplit]
          rw [show blk (⟨5, ((c :: r).take n ++ (c :: r).drop n).take n, a⟩ :: x.1.filter fc) = blk (⟨5, (c :: r).take n, a⟩ :: x.1.filter fc) by rw [← hsplit], blk_app, hb1, hlen, hb2]
        rw [hb, toks_blanks]
        exact h.tk
    · rw [if_neg hk] at h hT
      have e : ((⟨k, (c :: r).take n, a⟩ :: x.1 : List Tok)).filter fc = x.1.filter fc := by rw [List.filter_cons, if_neg (by simp [fc, hk])]
      have e2 : ((⟨k, (c :: r).take n, a⟩ :: x.1 : List Tok)).filter fn = ⟨k, (c :: r).take n, a⟩ :: x.1.filter fn := by rw [List.filter_cons, if_pos (by simp [fn, hk])]
      have h0 : cov (x.1.filter fc) a = false := cov_lo hlo (by omega)
      refine ⟨fun t ht => ?_, ?_, ?_, ?_⟩
      · rcases List.mem_cons.1 ht with rfl | ht
        · exact Nat.le_refl _
        · have := h.lo t ht; omega
      · show ∀ t ∈ List.filter fc (_ :: _), _
        rw [e]
        intro t ht; have := h.hi t ht; rw [hdl] at this; omega
      · show cov (List.filter fc (_ :: _)) a = true → _
        rw [e, h0]; intro q; cases q
      · show toks (blk (List.filter fc (_ :: _)) a _) a ins = (List.filter fn (_ :: _), _)
        rw [e, e2]
        have hb : blk (x.1.filter fc) a (c :: r) = (c :: r).take n ++ blk (x.1.filter fc) (a + n) ((c :: r).drop n) := by
          conv => lhs; rw [hsplit]
          rw [blk_app, hlen, blk_id _ ((c :: r).take n) a (fun i _ hi2 => cov_lo hlo (by rw [hlen] at hi2; exact hi2))]
        rw [hb]
        obtain ⟨m, rfl⟩ : ∃ m, n = m + 1 := ⟨n - 1, by omega⟩
        rw [List.take_succ_cons] at hb ⊢
        rw [List.drop_succ_cons] at h hT ⊢ 
        have hx' : nx (c :: r.take m ++ r.drop m) = (k, m + 1, 0) := by rw [List.cons_append, List.take_append_drop]; exact hx
        have hnx := nx_nxt hx' (by have := hlen; rw [List.take_succ_cons] at this; exact this.symm) hk (blk_nxt h.hd)
        have hlm : (r.take m).length = m := by have := hlen; rw [List.take_succ_cons] at this; simpa using this
        have hnx2 : nx (c :: (r.take m ++ blk (x.1.filter fc) (a + (m + 1)) (r.drop m))) = (k, m + 1, 0) := hnx
        rw [List.cons_append, toks_tok hs h10 hnx2, if_neg hk]
        have t1 : (c :: (r.take m ++ blk (x.1.filter fc) (a + (m + 1)) (r.drop m))).take (m + 1) = c :: r.take m := by
          rw [List.take_succ_cons, List.take_left' hlm]
        have t2 : (c :: (r.take m ++ blk (x.1.filter fc) (a + (m + 1)) (r.drop m))).drop (m + 1) = blk (x.1.filter fc) (a + (m + 1)) (r.drop m) := by
          rw [List.drop_succ_cons, List.drop_left' hlm]
        rw [t1, t2]
        have := h.tk
        rw [List.take_succ_cons] at this
        rw [this]

/-- The text whose comments are blank. -/
def bare (l : Bs) : Bs := blk (comL l) 0 l
theorem bare_ok {l : Bs} (hl : l.length ≤ 20000) : scanL (bare l) = scanL l ∧ scanA (bare l) = scanA l ∧ scanE (bare l) = scanE l := by
  have r1 : scanR l = toks l 0 false := by unfold scanR; rw [if_neg (by omega), scanAll_eq]
  have h := blk_ok l 0 false
  have hc : (toks l 0 false).1.filter fc = comL l := by unfold comL; rw [r1]; rfl
  have r2 : scanR (bare l) = (((toks l 0 false).1.filter fn), (toks l 0 false).2) := by
    unfold scanR bare
    rw [if_neg (by rw [blk_len]; omega), scanAll_eq]
    have := h.tk
    rw [hc] at this
    exact this
  unfold scanL scanA scanE
  rw [r2, r1]
  refine ⟨?_, rfl, rfl⟩
  simp only
  rw [List.filter_filter]
  congr 1
  apply List.filter_congr
  intro t _
  simp [fn]
theorem com_in {l : Bs} (hl : l.length ≤ 20000) : ∀ t ∈ comL l, t.a + t.t.length ≤ l.length := by
  have r1 : scanR l = toks l 0 false := by unfold scanR; rw [if_neg (by omega), scanAll_eq]
  have h := (blk_ok l 0 false).hi
  have hc : (toks l 0 false).1.filter fc = comL l := by unfold comL; rw [r1]; rfl
  rw [hc] at h
  intro t ht
  have := h t ht
  omega

/-! ### The loop that blanks -/
/-- Behind i comments, and k bytes of the next one. -/
def part (C : List Tok) (i k : Nat) : List Tok := C.take i ++ (match C[i]? with | some t => [⟨5, t.t.take k, t.a⟩] | none => [])
def fillK (C : List Tok) (l : Bs) (i k : Nat) : Bs := blk (part C i k) 0 l
theorem cov_app (L M : List Tok) (i : Nat) : cov (L ++ M) i = (cov L i || cov M i) := by simp [cov]
theorem blk_nil (r : Bs) (a : Nat) : blk [] a r = r := blk_id [] r a (fun _ _ _ => rfl)
theorem fill_zero (C : List Tok) (l : Bs) : fillK C l 0 0 = l := by
  unfold fillK
  refine blk_id _ _ _ (fun i _ _ => ?_)
  unfold part
  rw [List.take_zero, List.nil_append]
  cases C[0]? with
  | none => rfl
  | some t => simp [cov]
theorem fill_next (C : List Tok) (l : Bs) (i : Nat) (h : i < C.length) : fillK C l i C[i].t.length = fillK C l (i + 1) 0 := by
  unfold fillK
  refine blk_congr _ _ _ _ (fun p _ _ => ?_)
  unfold part
  rw [List.getElem?_eq_getElem h, List.take_succ_eq_append_getElem h, cov_app, cov_app, cov_app]
  simp only [List.take_length]
  have e : cov [⟨5, C[i].t, C[i].a⟩] p = cov [C[i]] p := by simp [cov]
  rw [e]
  cases C[i + 1]? with
  | none => simp [cov]
  | some t =>
    have : cov [⟨5, t.t.take 0, t.a⟩] p = false := by simp [cov]
    rw [this, Bool.or_false]
theorem fill_last (C : List Tok) (l : Bs) : fillK C l C.length 0 = blk C 0 l := by
  unfold fillK part
  rw [List.getElem?_eq_none (Nat.le_refl _), List.take_length, List.append_nil]
theorem blk_set (L M : List Tok) (r : Bs) : ∀ a q, a ≤ q → q < a + r.length → (∀ i, a ≤ i → i < a + r.length → cov M i = (cov L i || i == q)) → blk M a r = (blk L a r).set (q - a) 32 := by
  induction r with
  | nil => intro a q h1 h2; simp at h2; omega
  | cons c r ih =>
    intro a q h1 h2 h
    rw [blk, blk]
    by_cases e : q = a
    · subst e
      rw [Nat.sub_self, List.set_cons_zero, h q (Nat.le_refl _) (by simp)]
      simp
      refine blk_congr _ _ _ _ (fun i h3 h4 => ?_)
      rw [h i (by omega) (by simp; omega)]
      have : (i == q) = false := by simp; omega
      rw [this, Bool.or_false]
    · have e2 : q - a = (q - (a + 1)) + 1 := by omega
      rw [e2, List.set_cons_succ, h a (Nat.le_refl _) (by simp), ih (a + 1) q (by omega) (by simp at h2; omega) (fun i h3 h4 => h i (by omega) (by simp; omega))]
      have : (a == q) = false := by simp; omega
      rw [this, Bool.or_false]
theorem fill_succ (C : List Tok) (l : Bs) (i k : Nat) (h : i < C.length) (hk : k < C[i].t.length) (hb : C[i].a + k < l.length) : fillK C l i (k + 1) = (fillK C l i k).set (C[i].a + k) 32 := by
  unfold fillK
  have := blk_set (part C i k) (part C i (k + 1)) l 0 (C[i].a + k) (Nat.zero_le _) (by omega) (fun p _ _ => by
    unfold part
    rw [List.getElem?_eq_getElem h, cov_app, cov_app, Bool.or_assoc]
    congr 1
    rw [Bool.eq_iff_iff]
    simp [cov]
    omega)
  simpa using this
theorem fill_len (C : List Tok) (l : Bs) (i k : Nat) : (fillK C l i k).length = l.length := blk_len _ _ _
end Go.Proofs.YtaalgkcbknlccaaDoor.M
