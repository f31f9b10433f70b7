/-
  The specification's next, in one word; the walk of the specification's All.
-/
import Derived.Test.YtaalgkcbknlccaaDoorR4
import Derived.Test.YtaalgkcbknlccaaDoorW16
namespace Go.Proofs.YtaalgkcbknlccaaDoor
open Go.RowKit M

theorem noslash_of {s : ByteArray} {a : Nat} (ha : a < s.size) (h : ¬ (s.data.toList.drop a).take 2 = [47, 47]) : NoSlash s a s[a].toNat := by
  by_cases h1 : s[a].toNat = 47
  · by_cases h2 : a + 1 < s.size
    · refine .inr (.inr ⟨by simp; omega, h2, ?_⟩)
      rw [drop_at s a ha, drop_at s (a + 1) h2] at h
      simp
      intro e
      apply h
      have e1 : s[a] = 47 := UInt8.toNat_inj.1 h1
      have e2 : s[a + 1] = 47 := UInt8.toNat_inj.1 (by show _ = 47; omega)
      rw [e1, e2]; rfl
    · exact .inr (.inl ⟨by simp; omega, by simp; omega⟩)
  · exact .inl (by simp; omega)
theorem slash_yes {s : ByteArray} {a : Nat} (ha : a < s.size) (h : (s.data.toList.drop a).take 2 = [47, 47]) : s[a].toNat = 47 ∧ ∃ h : a + 1 < s.size, s[a + 1].toNat = 47 := by
  by_cases h2 : a + 1 < s.size
  · rw [drop_at s a ha, drop_at s (a + 1) h2] at h
    simp at h
    exact ⟨by rw [h.1]; rfl, h2, by rw [h.2]; rfl⟩
  · have := congrArg List.length h
    simp at this
    omega

theorem rnext_ok {s : ByteArray} {a : Nat} (w : World) (hs : s.size ≤ 20000) (ha : a < s.size) {k n : Nat} (hx : nx (s.data.toList.drop a) = (k, n, 0)) :
    Calls Tryd.prog 34 #[.string s, .int .i64 (a : Int)] w (RTok w k (s.extract a (a + n)) a) := by
  rw [nx_at _ _ _ (drop_at s a ha)] at hx
  by_cases c1 : isL s[a].toNat = true
  · rw [if_pos c1] at hx
    by_cases c2 : 32 < spn isLD (s.data.toList.drop a)
    · rw [if_pos c2] at hx; simp at hx
    · rw [if_neg c2] at hx
      simp only [Prod.mk.injEq, and_true] at hx
      obtain ⟨rfl, rfl⟩ := hx
      exact rnext_name s a w hs ha _ rfl c1 c2
  · rw [if_neg c1] at hx
    have c1' : isL s[a].toNat = false := by simpa using c1
    by_cases c2 : isD s[a].toNat = true
    · rw [if_pos c2] at hx
      split at hx
      · rename_i c3
        simp only [Prod.mk.injEq, and_true] at hx
        obtain ⟨rfl, rfl⟩ := hx
        simp only [Bool.and_eq_true, Bool.not_eq_true'] at c3
        exact rnext_int s a w hs ha _ rfl c1' c2 c3
      · simp at hx
    · rw [if_neg c2] at hx
      have c2' : isD s[a].toNat = false := by simpa using c2
      by_cases c3 : (s.data.toList.drop a).take 2 = [47, 47]
      · rw [if_pos c3] at hx
        simp only [Prod.mk.injEq, and_true] at hx
        obtain ⟨rfl, rfl⟩ := hx
        obtain ⟨q1, q2, q3⟩ := slash_yes ha c3
        exact rnext_comment s a w hs ha q1 q2 q3
      · rw [if_neg c3] at hx
        by_cases c4 : opOf (s.data.toList.drop a) = 0
        · rw [if_pos c4] at hx; simp at hx
        · rw [if_neg c4] at hx
          simp only [Prod.mk.injEq, and_true] at hx
          obtain ⟨rfl, rfl⟩ := hx
          exact rnext_op s a w hs ha _ rfl c1' c2' (noslash_of ha c3) c4
theorem rnext_err {s : ByteArray} {a : Nat} (w : World) (hs : s.size ≤ 20000) (ha : a < s.size) (hx : (nx (s.data.toList.drop a)).2.2 ≠ 0) :
    Calls Tryd.prog 34 #[.string s, .int .i64 (a : Int)] w (RErr w (nx (s.data.toList.drop a)).2.2) := by
  rw [nx_at _ _ _ (drop_at s a ha)] at hx ⊢
  by_cases c1 : isL s[a].toNat = true
  · rw [if_pos c1] at hx ⊢
    by_cases c2 : 32 < spn isLD (s.data.toList.drop a)
    · rw [if_pos c2]; exact rnext_long s a w hs ha _ rfl c1 c2
    · rw [if_neg c2] at hx; simp at hx
  · rw [if_neg c1] at hx ⊢
    have c1' : isL s[a].toNat = false := by simpa using c1
    by_cases c2 : isD s[a].toNat = true
    · rw [if_pos c2] at hx ⊢
      split at hx
      · simp at hx
      · rename_i c3
        rw [if_neg c3]
        exact rnext_noint s a w hs ha _ rfl c1' c2 (fun g => by rw [g] at c3; simpa using c3)
    · rw [if_neg c2] at hx ⊢
      have c2' : isD s[a].toNat = false := by simpa using c2
      by_cases c3 : (s.data.toList.drop a).take 2 = [47, 47]
      · rw [if_pos c3] at hx; simp at hx
      · rw [if_neg c3] at hx ⊢
        by_cases c4 : opOf (s.data.toList.drop a) = 0
        · rw [if_pos c4]
          exact rnext_noop s a w hs ha _ rfl c1' c2' (noslash_of ha c3) c4
        · rw [if_neg c4] at hx; simp at hx

theorem rnext_case {a : Nat} {s : ByteArray} (ins : Bool) (w : World) (hs : s.size ≤ 20000) (ha : a < s.size) (h10 : s[a].toNat ≠ 10) (hsep : sep ins s[a].toNat = false) :
    (∃ k n t, Step s a ins k n (after k ins t) t ∧ t.length = n ∧ Calls Tryd.prog 34 #[.string s, .int .i64 (a : Int)] w (RTok w k ⟨t.toArray⟩ a)) ∨
    (∃ err : Nat, err ≠ 0 ∧ toks (s.data.toList.drop a) a ins = ([], a, err) ∧ Calls Tryd.prog 34 #[.string s, .int .i64 (a : Int)] w (RErr w err)) := by
  have hr := drop_at s a ha
  by_cases he : (nx (s.data.toList.drop a)).2.2 = 0
  · have hb := nx_bd _ he
    obtain ⟨k, n, hx⟩ : ∃ k n, nx (s.data.toList.drop a) = (k, n, 0) := ⟨_, _, by rw [← he]⟩
    rw [hx] at hb
    have hc := rnext_ok w hs ha hx
    rw [ext_mk] at hc
    have hb2 : n ≤ s.size - a := by have := hb.2; simp at this; omega
    refine .inl ⟨k, n, _, ⟨hb.1, by omega, ?_⟩, by simp; omega, hc⟩
    have hx2 := hx
    rw [hr] at hx2
    have := toks_tok (a := a) hsep h10 hx2
    rw [← hr, List.drop_drop] at this
    exact this
  · refine .inr ⟨_, he, ?_, rnext_err w hs ha he⟩
    have := toks_err (a := a) hsep h10 (by rw [← hr]; exact he)
    rw [← hr] at this
    exact this

/-! ### the list of tokens and the list of comments -/
def lastE (l : List Tok) : Bool := match l.getLast? with | none => false | some t => endB t.k t.t
theorem lastE_snoc (l : List Tok) (t : Tok) : lastE (l ++ [t]) = endB t.k t.t := by simp [lastE]
def nc (t : Tok) : Bool := !(t.k == 5)
def ic (t : Tok) : Bool := t.k == 5

/-- What holds at a round's head. -/
structure AInv (w : World) (s : ByteArray) (out com : List Tok) (a : Nat) (A1 A2 : Option Addr) (c1 c2 : Nat) (wr : World) : Prop where
  le : a ≤ s.size
  l1 : out.length ≤ a
  l2 : com.length ≤ a
  own1 : wr.ownsRow w.heap.size 33 3 (.slice A1 out.length c1) out.length (cells out)
  own2 : wr.ownsRow w.heap.size 33 3 (.slice A2 com.length c2) com.length (cells com)
  ne : (Value.slice A1 out.length c1).ownBlock = none ∨ (Value.slice A1 out.length c1).ownBlock ≠ (Value.slice A2 com.length c2).ownBlock
  below : Below w.heap.size w wr
  eq : (out ++ (toks (s.data.toList.drop a) a (lastE out)).1.filter nc, com ++ (toks (s.data.toList.drop a) a (lastE out)).1.filter ic, (toks (s.data.toList.drop a) a (lastE out)).2)
    = ((scanAll s.data.toList).1.filter nc, (scanAll s.data.toList).1.filter ic, (scanAll s.data.toList).2)

theorem AInv.keep {w wr w2 : World} {s : ByteArray} {out com : List Tok} {a c1 c2 : Nat} {A1 A2 : Option Addr} (h : AInv w s out com a A1 A2 c1 c2 wr) (hb : Below wr.heap.size wr w2) : AInv w s out com a A1 A2 c1 c2 w2 := by
  have hg : ∀ row, wr.grownBy w2 row := fun row => ⟨hb.os, hb.tape, hb.output, hb.size, fun k hk _ => hb.block k hk⟩
  exact ⟨h.le, h.l1, h.l2, h.own1.kept (hg none) (by cases hv : (Value.slice A1 out.length c1).ownBlock <;> simp), h.own2.kept (hg none) (by cases hv : (Value.slice A2 com.length c2).ownBlock <;> simp), h.ne, h.below.trans (hb.mono h.below.size), h.eq⟩
theorem AInv.alloc {w wr : World} {s : ByteArray} {out com : List Tok} {a c1 c2 : Nat} {A1 A2 : Option Addr} (h : AInv w s out com a A1 A2 c1 c2 wr) (o : Obj) : AInv w s out com a A1 A2 c1 c2 (wr.alloc o) :=
  h.keep ((Below.refl _ _).alloc (Nat.le_refl _) o)

/-- White space. -/
theorem AInv.skip {w wr : World} {s : ByteArray} {out com : List Tok} {a c1 c2 : Nat} {A1 A2 : Option Addr} (h : AInv w s out com a A1 A2 c1 c2 wr) (ha : a < s.size) (hsep : sep (lastE out) s[a].toNat = true) : AInv w s out com (a + 1) A1 A2 c1 c2 wr := by
  refine ⟨by omega, by have := h.l1; omega, by have := h.l2; omega, h.own1, h.own2, h.ne, h.below, ?_⟩
  have := h.eq
  rw [drop_at s a ha, toks_sep hsep] at this
  exact this

/-- A token goes to out. -/
theorem AInv.push1 {w wr w4 : World} {s : ByteArray} {out com : List Tok} {a n k c1 c2 g cap' H : Nat} {A1 A2 : Option Addr} {t : Bs} {ins' : Bool} (h : AInv w s out com a A1 A2 c1 c2 wr) (st : Step s a (lastE out) k n ins' t) (hi : ins' = endB k t) (hk : k ≠ 5)
    (hown : w4.ownsRow w.heap.size 33 3 (.slice (some ⟨g, 0, none⟩) (out.length + 1) cap') (out.length + 1) (cells out ++ cell1 ⟨k, t, a⟩))
    (hgr : wr.grownBy w4 (Value.slice A1 out.length c1).ownBlock) (hat : (Value.slice A1 out.length c1).ownBlock = some g ∨ g = H) (hH : wr.heap.size = H) :
    AInv w s (out ++ [⟨k, t, a⟩]) com (a + n) (some ⟨g, 0, none⟩) A2 cap' c2 w4 := by
  have hp := st.pos
  have hl : (out ++ [(⟨k, t, a⟩ : Tok)]).length = out.length + 1 := by simp
  have hne2 : (Value.slice A2 com.length c2).ownBlock = none ∨ (Value.slice A2 com.length c2).ownBlock ≠ (Value.slice A1 out.length c1).ownBlock := by
    cases hv : (Value.slice A2 com.length c2).ownBlock with
    | none => exact .inl rfl
    | some q =>
      right
      rcases h.ne with e | e
      · rw [e]; simp
      · rw [hv] at e; exact fun e2 => e e2.symm
  refine ⟨st.le, by rw [hl]; have := h.l1; omega, by have := h.l2; omega, by rw [hl, cells_snoc]; exact hown, h.own2.kept hgr hne2, ?_, h.below.grown hgr h.below.size (fun q hq => (h.own1.lt q hq).1), ?_⟩
  · right
    show some g ≠ _
    rcases hat with e | e
    · rcases h.ne with e2 | e2
      · rw [e] at e2; cases e2
      · rw [← e]; exact e2
    · intro e2
      have := (h.own2.lt g e2.symm).2
      omega
  · have e := h.eq
    rw [st.eq] at e
    rw [← e, lastE_snoc, hi]
    have hk2 : (k == 5) = false := by simpa using hk
    simp [nc, ic, hk2]
/-- A comment. -/
theorem AInv.push2 {w wr w4 : World} {s : ByteArray} {out com : List Tok} {a n k c1 c2 g cap' H : Nat} {A1 A2 : Option Addr} {t : Bs} {ins' : Bool} (h : AInv w s out com a A1 A2 c1 c2 wr) (st : Step s a (lastE out) k n ins' t) (hi : ins' = lastE out) (hk : k = 5)
    (hown : w4.ownsRow w.heap.size 33 3 (.slice (some ⟨g, 0, none⟩) (com.length + 1) cap') (com.length + 1) (cells com ++ cell1 ⟨k, t, a⟩))
    (hgr : wr.grownBy w4 (Value.slice A2 com.length c2).ownBlock) (hat : (Value.slice A2 com.length c2).ownBlock = some g ∨ g = H) (hH : wr.heap.size = H) :
    AInv w s out (com ++ [⟨k, t, a⟩]) (a + n) A1 (some ⟨g, 0, none⟩) c1 cap' w4 := by
  have hp := st.pos
  have hl : (com ++ [(⟨k, t, a⟩ : Tok)]).length = com.length + 1 := by simp
  refine ⟨st.le, by have := h.l1; omega, by rw [hl]; have := h.l2; omega, h.own1.kept hgr h.ne, by rw [hl, cells_snoc]; exact hown, ?_, h.below.grown hgr h.below.size (fun q hq => (h.own2.lt q hq).1), ?_⟩
  · cases hv : (Value.slice A1 out.length c1).ownBlock with
    | none => exact .inl rfl
    | some q =>
      right
      show some q ≠ some g
      rcases hat with e | e
      · rcases h.ne with e2 | e2
        · rw [hv] at e2; cases e2
        · rw [← e, ← hv]; exact e2
      · intro e2
        have := (h.own1.lt q hv).2
        injection e2 with e3
        omega
  · have e := h.eq
    rw [st.eq] at e
    rw [← e, hi]
    subst hk
    simp [nc, ic]
end Go.Proofs.YtaalgkcbknlccaaDoor
