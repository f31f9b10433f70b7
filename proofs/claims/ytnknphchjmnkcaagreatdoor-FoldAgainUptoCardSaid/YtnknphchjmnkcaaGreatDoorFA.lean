/-
  Plain mathematics of constant folding: what an expression is worth, the folded tree. No program text is reached here.
-/
import Derived.Test.YtnknphchjmnkcaaGreatDoorTA
import Derived.RowKit
import Derived.IntWalk

set_option linter.all false
namespace Go.Proofs.YtnknphchjmnkcaaGreatDoor.T
set_option linter.unusedVariables false
open Fo
open RowKit (wrap64)

/-- What an expression is worth: k = 24 an integer, 25 a boolean, 0: it is not constant. -/
structure Cv where
  k : Int
  v : Int
deriving DecidableEq
def no : Cv := ⟨0, 0⟩
def ofB (b : Bool) : Cv := ⟨25, if b then 1 else 0⟩
def ofI (n : Int) : Cv := ⟨24, wrap64 n⟩
def unL (t : Bs) (a : Cv) : Cv :=
  if t = [45] ∧ a.k = 24 then ofI (-a.v) else if t = [33] ∧ a.k = 25 then ofB (a.v == 0) else no
def intsL (t : Bs) (a b : Int) : Cv :=
  if t = [43] then ofI (a + b) else if t = [45] then ofI (a - b) else if t = [42] then ofI (a * b)
  else if t = [47] then (if b = 0 then no else ofI (a.tdiv b))
  else if t = [37] then (if b = 0 then no else ⟨24, a.tmod b⟩)
  else if t = [60] then ofB (decide (a < b)) else if t = [60, 61] then ofB (decide (a ≤ b))
  else if t = [62] then ofB (decide (b < a)) else if t = [62, 61] then ofB (decide (b ≤ a)) else no
def boolsL (t : Bs) (a b : Bool) : Cv := if t = [38, 38] then ofB (a && b) else if t = [124, 124] then ofB (a || b) else no
def binL (t : Bs) (a b : Cv) : Cv :=
  if a.k = b.k then (if t = [61, 61] then ofB (a.v == b.v) else if t = [33, 61] then ofB (a.v != b.v) else if a.k = 24 then intsL t a.v b.v else boolsL t (a.v == 1) (b.v == 1)) else no
def isLit (h : Hd) (n : Nat) : Bool := h.text.data.toList == [] && n == 0 && ((h.kind == 24 && decide (0 ≤ h.num)) || (h.kind == 25 && (h.num == 0 || h.num == 1)))
def evC (h : Hd) (l : List Cv) : Cv :=
  if isLit h l.length then ⟨h.kind, h.num⟩
  else match l with
    | [a] => if h.kind = 31 then unL h.text.data.toList a else no
    | [a, b] => if h.kind = 32 ∧ a.k ≠ 0 then binL h.text.data.toList a b else no
    | _ => no
def evF : Fo → List Cv
  | .nil => []
  | .cons h k r => evC h (evF k) :: evF r
def evT (h : Hd) (k : Fo) : Cv := evC h (evF k)
theorem evF_cons (h : Hd) (k r : Fo) : evF (.cons h k r) = evT h k :: evF r := rfl
theorem evF_len (F : Fo) : (evF F).length = F.len := by
  induction F with
  | nil => rfl
  | cons h k r _ ih => simp [evF, len, ih]

/-! ### Ranges -/
def rg (n : Int) : Prop := -9223372036854775808 ≤ n ∧ n ≤ 9223372036854775807
def rgH (h : Hd) : Prop := rg h.num
def okC (c : Cv) : Prop := c = no ∨ (c.k = 24 ∧ rg c.v) ∨ (c.k = 25 ∧ (c.v = 0 ∨ c.v = 1))
theorem wr (n : Int) : rg (wrap64 n) := by unfold rg wrap64; omega
theorem wr_id {n : Int} (h : rg n) : wrap64 n = n := IntWalk.wrap64_in n h
theorem okC_no : okC no := .inl rfl
theorem okC_I (n : Int) : okC (ofI n) := .inr (.inl ⟨rfl, wr n⟩)
theorem okC_B (b : Bool) : okC (ofB b) := .inr (.inr ⟨rfl, by cases b <;> simp [ofB]⟩)
theorem okC_un (t : Bs) (a : Cv) : okC (unL t a) := by
  unfold unL
  split
  · exact okC_I _
  · split
    · exact okC_B _
    · exact okC_no
theorem tmod_rg {a b : Int} (ha : rg a) (hb : rg b) (h0 : b ≠ 0) : rg (a.tmod b) := by
  have h := Int.natAbs_tmod a b
  have h1 : a.natAbs % b.natAbs < b.natAbs := Nat.mod_lt _ (by omega)
  unfold rg at *
  omega
theorem okC_ints (t : Bs) {a b : Int} (ha : rg a) (hb : rg b) : okC (intsL t a b) := by
  unfold intsL
  repeat' split
  all_goals first
    | exact okC_I _
    | exact okC_B _
    | exact okC_no
    | exact .inr (.inl ⟨rfl, tmod_rg ha hb (by assumption)⟩)
theorem okC_bools (t : Bs) (a b : Bool) : okC (boolsL t a b) := by
  unfold boolsL
  repeat' split
  all_goals first
    | exact okC_B _
    | exact okC_no
theorem okC_rg {c : Cv} (h : okC c) : rg c.v := by
  rcases h with rfl | ⟨_, h⟩ | ⟨_, h | h⟩
  · simp [no, rg]
  · exact h
  · rw [h]; simp [rg]
  · rw [h]; simp [rg]
theorem okC_bin (t : Bs) {a b : Cv} (ha : okC a) (hb : okC b) : okC (binL t a b) := by
  unfold binL
  repeat' split
  all_goals first
    | exact okC_B _
    | exact okC_no
    | exact okC_ints t (okC_rg ha) (okC_rg hb)
    | exact okC_bools _ _ _
theorem isLit_ok {h : Hd} {n : Nat} (hr : rgH h) (hl : isLit h n = true) : okC ⟨h.kind, h.num⟩ ∧ (h.kind = 24 ∨ h.kind = 25) ∧ 0 ≤ h.num ∧ n = 0 := by
  unfold isLit at hl
  simp only [Bool.and_eq_true, Bool.or_eq_true, beq_iff_eq, decide_eq_true_eq] at hl
  obtain ⟨⟨_, h0⟩, ⟨h1, h2⟩ | ⟨h1, h2⟩⟩ := hl
  · exact ⟨.inr (.inl ⟨h1, hr⟩), .inl h1, h2, h0⟩
  · exact ⟨.inr (.inr ⟨h1, h2⟩), .inr h1, by omega, h0⟩
theorem evC_ok {h : Hd} {l : List Cv} (hr : rgH h) (hl : ∀ c ∈ l, okC c) : okC (evC h l) := by
  unfold evC
  split
  · exact (isLit_ok hr (by assumption)).1
  · split
    · split
      · exact okC_un _ _
      · exact okC_no
    · split
      · exact okC_bin _ (hl _ (by simp)) (hl _ (by simp))
      · exact okC_no
    · exact okC_no
theorem evF_ok : ∀ (F : Fo), F.AllH rgH → ∀ c ∈ evF F, okC c := by
  intro F
  induction F with
  | nil => intro _ c h; cases h
  | cons h k r ihk ihr =>
    intro hF c hc
    rcases List.mem_cons.1 hc with rfl | hc
    · exact evC_ok hF.1 (ihk hF.2.1)
    · exact ihr hF.2.2 c hc
theorem evT_ok {h : Hd} {k : Fo} (hr : rgH h) (hk : k.AllH rgH) : okC (evT h k) := evC_ok hr (evF_ok k hk)

/-! ### The folded tree -/
def least : Int := -9223372036854775808
def litH (k v p : Int) : Hd := ⟨k, ⟨#[]⟩, v, p, 0, ⟨#[]⟩, 0, 0⟩
def negH (p : Int) : Hd := ⟨31, ⟨#[45]⟩, 0, p, 0, ⟨#[]⟩, 0, 0⟩
def blkH (p : Int) : Hd := ⟨10, ⟨#[]⟩, 0, p, 0, ⟨#[]⟩, 0, 0⟩
def ifH (p : Int) : Hd := ⟨18, ⟨#[]⟩, 0, p, 0, ⟨#[]⟩, 0, 0⟩
def plainH (h : Hd) : Hd := ⟨h.kind, h.text, 0, h.pos, 0, ⟨#[]⟩, 0, 0⟩
def shortH (c : Cv) (p : Int) : Hd := if c.v < 0 then negH p else litH c.k c.v p
def shortK (c : Cv) (p : Int) : Fo := if c.v < 0 then .cons (litH c.k (-c.v) p) .nil .nil else .nil
/-- What the row holds at a place. -/
def nthF : Fo → Nat → Hd × Fo
  | .nil, _ => (litH 0 0 0, .nil)
  | .cons h k _, 0 => (h, k)
  | .cons _ _ r, i + 1 => nthF r i
def condT (p : Int) (K : Fo) : Hd × Fo :=
  let c := evT (nthF K 0).1 (nthF K 0).2
  if c.k = 0 then (ifH p, K) else if c.v = 1 then nthF K 1 else if (nthF K 2).1.kind = 9 then (blkH p, .nil) else nthF K 2
theorem condT_ind {p : Int} {K : Fo} {P : Hd × Fo → Prop} (a : (evT (nthF K 0).1 (nthF K 0).2).k = 0 → P (ifH p, K)) (b : P (nthF K 1)) (c : P (blkH p, .nil)) (d : (nthF K 2).1.kind ≠ 9 → P (nthF K 2)) : P (condT p K) := by
  unfold condT
  simp only
  by_cases x : (evT (nthF K 0).1 (nthF K 0).2).k = 0
  · rw [if_pos x]; exact a x
  · rw [if_neg x]
    by_cases y : (evT (nthF K 0).1 (nthF K 0).2).v = 1
    · rw [if_pos y]; exact b
    · rw [if_neg y]
      by_cases z : (nthF K 2).1.kind = 9
      · rw [if_pos z]; exact c
      · rw [if_neg z]; exact d z
/-- The constant by which a node is replaced. -/
def isShort (c : Cv) : Bool := c.k != 0 && c.v != least
def bld (h : Hd) (K : Fo) : Hd × Fo :=
  if h.kind = 18 then condT h.pos K
  else if isShort (evT h K) then (shortH (evT h K) h.pos, shortK (evT h K) h.pos) else (plainH h, K)
def foF : Fo → Fo
  | .nil => .nil
  | .cons h k r => .cons (bld h (foF k)).1 (bld h (foF k)).2 (foF r)
def foT (h : Hd) (k : Fo) : Hd × Fo := bld h (foF k)
theorem foF_cons (h : Hd) (k r : Fo) : foF (.cons h k r) = .cons (foT h k).1 (foT h k).2 (foF r) := rfl
theorem foF_len (F : Fo) : (foF F).len = F.len := by
  induction F with
  | nil => rfl
  | cons h k r _ ih => simp [foF, len, ih]
theorem evC_other {h : Hd} (l : List Cv) (h1 : h.kind ≠ 24) (h2 : h.kind ≠ 25) (h3 : h.kind ≠ 31) (h4 : h.kind ≠ 32) : evC h l = no := by
  unfold evC
  have : isLit h l.length = false := by unfold isLit; simp [h1, h2]
  rw [this]
  simp only [Bool.false_eq_true, if_false]
  split
  · rw [if_neg h3]
  · rw [if_neg (fun x => h4 x.1)]
  · rfl
theorem evC_plain {h : Hd} (l : List Cv) (h1 : h.kind ≠ 24) (h2 : h.kind ≠ 25) : evC (plainH h) l = evC h l := by
  have a : isLit h l.length = false := by unfold isLit; simp [h1, h2]
  have b : isLit (plainH h) l.length = false := by unfold isLit plainH; simp [h1, h2]
  unfold evC
  rw [a, b]
  rfl
theorem no_k : no.k = 0 := rfl
theorem isShort_no : isShort no = false := rfl
theorem isShort_iff (c : Cv) : isShort c = true ↔ c.k ≠ 0 ∧ c.v ≠ least := by unfold isShort; simp
theorem okC_k {c : Cv} (h : okC c) (h0 : c.k ≠ 0) : c.k = 24 ∨ c.k = 25 := by
  rcases h with rfl | ⟨h, _⟩ | ⟨h, _⟩
  · exact absurd rfl h0
  · exact .inl h
  · exact .inr h
theorem evT_lit {k v p : Int} (hk : k = 24 ∧ 0 ≤ v ∨ k = 25 ∧ (v = 0 ∨ v = 1)) : evT (litH k v p) .nil = ⟨k, v⟩ := by
  have : isLit (litH k v p) 0 = true := by
    unfold isLit litH
    rcases hk with ⟨rfl, h⟩ | ⟨rfl, h | h⟩ <;> simp [h]
  show (if isLit (litH k v p) 0 = true then _ else _) = _
  rw [this]; rfl
/-- A short form is worth what it stands for. -/
theorem ev_short {c : Cv} (hc : okC c) (hs : isShort c = true) (p : Int) : evT (shortH c p) (shortK c p) = c := by
  obtain ⟨h0, hl⟩ := (isShort_iff c).1 hs
  obtain ⟨ck, cvv⟩ := c
  unfold least at hl
  simp only at h0 hl
  rcases hc with hc | ⟨hk, hv⟩ | ⟨hk, hv⟩
  · injection hc with a b; exact absurd a h0
  · simp only at hk hv
    subst hk
    unfold rg at hv
    by_cases hn : cvv < 0
    · have e : evT (litH 24 (-cvv) p) .nil = ⟨24, -cvv⟩ := evT_lit (.inl ⟨rfl, by omega⟩)
      show evT (if cvv < 0 then _ else _) (if cvv < 0 then _ else _) = _
      rw [if_pos hn, if_pos hn]
      unfold evT
      rw [evF_cons, e]
      show unL [45] ⟨24, -cvv⟩ = _
      simp [unL, ofI]
      exact wr_id hv
    · show evT (if cvv < 0 then _ else _) (if cvv < 0 then _ else _) = _
      rw [if_neg hn, if_neg hn]
      exact evT_lit (k := 24) (v := cvv) (.inl ⟨rfl, by omega⟩)
  · simp only at hk hv
    subst hk
    have hn : ¬ cvv < 0 := by omega
    show evT (if cvv < 0 then _ else _) (if cvv < 0 then _ else _) = _
    rw [if_neg hn, if_neg hn]
    exact evT_lit (.inr ⟨rfl, hv⟩)

section
variable {nm : ByteArray → Bool}
theorem okT_parts {h : Hd} {k : Fo} (H : okT nm h k = true) : textFits nm h = true ∧ numFits h = true ∧ fits (places h.kind k.len) k = true ∧ okF nm k = true := by
  unfold okT childrenFit at H
  simp only [Bool.and_eq_true] at H
  exact ⟨H.1.1.1, H.1.1.2, H.1.2, H.2⟩
/-- A literal is worth itself. -/
theorem ev_lit {h : Hd} {k : Fo} (H : okT nm h k = true) (e : h.kind = 24 ∨ h.kind = 25) : k = .nil ∧ evT h k = ⟨h.kind, h.num⟩ ∧ 0 ≤ h.num := by
  obtain ⟨ht, hn, hp, _⟩ := okT_parts H
  have hk : k = .nil := by
    rcases e with e | e <;> (rw [e] at hp; exact fits_nil hp)
  subst hk
  have ht' : h.text.data.toList = [] := by
    unfold textFits namedK at ht
    rcases e with e | e <;> simpa [e] using ht
  have hl : isLit h 0 = true := by
    unfold isLit
    unfold numFits at hn
    rcases e with e | e
    · simp [e] at hn; simp [e, ht', hn]
    · simp [e] at hn; simp [e, ht', hn]
  refine ⟨rfl, ?_, ?_⟩
  · show (if isLit h 0 = true then _ else _) = _
    rw [hl]; rfl
  · unfold numFits at hn
    rcases e with e | e
    · simpa [e] using hn
    · simp [e] at hn; omega
theorem if_kids {h : Hd} {k : Fo} (H : okT nm h k = true) (e : h.kind = 18) : ∃ h0 k0 h1 k1 h2 k2, k = .cons h0 k0 (.cons h1 k1 (.cons h2 k2 .nil)) ∧ exprK h0.kind = true ∧ h1.kind = 10 ∧ (h2.kind = 9 ∨ h2.kind = 10 ∨ h2.kind = 18) ∧
    okT nm h0 k0 = true ∧ okT nm h1 k1 = true ∧ okT nm h2 k2 = true := by
  obtain ⟨_, _, hp, hk⟩ := okT_parts H
  rw [e] at hp
  obtain ⟨h0, k0, h1, k1, h2, k2, rfl, p0, p1, p2⟩ := fits_three (p := isE) (q := one [10]) (s := opt (one [10, 18])) hp
  simp only [okF_cons, Bool.and_eq_true] at hk
  refine ⟨h0, k0, h1, k1, h2, k2, rfl, p0, by simpa using one_kind p1, ?_, hk.1, hk.2.1, hk.2.2.1⟩
  unfold opt at p2
  rcases Bool.or_eq_true _ _ ▸ p2 with x | x
  · left; simpa using x
  · right; simpa using one_kind x
/-- What can be said of a tree's folded form. -/
theorem kd {h : Hd} {k : Fo} (h0 : h.kind ≠ 18) (h1 : h.kind ≠ 24) (h2 : h.kind ≠ 25) (h3 : h.kind ≠ 31) (h4 : h.kind ≠ 32) : foT h k = (plainH h, foF k) := by
  unfold foT bld
  rw [if_neg h0]
  have : evT h (foF k) = no := evC_other _ h1 h2 h3 h4
  rw [this, isShort_no]
  rfl
theorem ev_no18 {h : Hd} {k : Fo} (e : h.kind = 18 ∨ h.kind = 10 ∨ h.kind = 9) : evT h k = no := evC_other _ (by omega) (by omega) (by omega) (by omega)

/-- P7.4: folding keeps values. -/
theorem evF_fo : ∀ (F : Fo), okF nm F = true → F.AllH rgH → evF (foF F) = evF F := by
  intro F
  induction F with
  | nil => intro _ _; rfl
  | cons h k r ihk ihr =>
    intro hF hA
    rw [okF_cons, Bool.and_eq_true] at hF
    obtain ⟨hT, hR⟩ := hF
    obtain ⟨a1, a2, a3⟩ := hA
    obtain ⟨_, _, _, hk⟩ := okT_parts hT
    have ek := ihk hk a2
    rw [foF_cons, evF_cons, evF_cons, ihr hR a3]
    congr 1
    by_cases e : h.kind = 18
    · rw [ev_no18 (.inl e)]
      obtain ⟨h0, k0, h1, k1, h2, k2, rfl, q0, q1, q2, t0, t1, t2⟩ := if_kids hT e
      unfold foT bld
      rw [if_pos e]
      rw [foF_cons, foF_cons, foF_cons] at ek ⊢
      rw [evF_cons, evF_cons, evF_cons, evF_cons, evF_cons, evF_cons] at ek
      injection ek with e0 ek
      injection ek with e1 ek
      injection ek with e2 ek
      refine condT_ind (P := fun x => evT x.1 x.2 = no) (fun _ => ev_no18 (.inl rfl)) ?_ (ev_no18 (.inr (.inl rfl))) (fun _ => ?_)
      · show evT (foT h1 k1).1 (foT h1 k1).2 = no
        rw [e1]; exact ev_no18 (.inr (.inl q1))
      · show evT (foT h2 k2).1 (foT h2 k2).2 = no
        rw [e2]; exact ev_no18 (by omega)
    · unfold foT bld
      rw [if_neg e]
      have ec : evT h (foF k) = evT h k := by unfold evT; rw [ek]
      rw [ec]
      have ok := evT_ok a1 a2
      split
      · exact ev_short ok (by assumption) _
      · rename_i hs
        by_cases l : h.kind = 24 ∨ h.kind = 25
        · obtain ⟨rfl, x, y⟩ := ev_lit hT l
          exfalso
          apply hs
          rw [x, isShort_iff]
          constructor
          · simp only; omega
          · unfold least; simp only; omega
        · show evC (plainH h) (evF (foF k)) = _
          rw [ek, evC_plain _ (by omega) (by omega)]
          rfl
theorem evT_fo {h : Hd} {k : Fo} (hT : okT nm h k = true) (hr : rgH h) (hA : k.AllH rgH) : evT (foT h k).1 (foT h k).2 = evT h k := by
  have := evF_fo (nm := nm) (.cons h k .nil) (by rw [okF_cons, hT]; rfl) ⟨hr, hA, trivial⟩
  rw [foF_cons, evF_cons, evF_cons] at this
  injection this
theorem evT_foK {h : Hd} {k : Fo} (hT : okT nm h k = true) (hr : rgH h) (hA : k.AllH rgH) : evT h (foF k) = evT h k := by
  unfold evT; rw [evF_fo k (okT_parts hT).2.2.2 hA]
end
end Go.Proofs.YtnknphchjmnkcaaGreatDoor.T
