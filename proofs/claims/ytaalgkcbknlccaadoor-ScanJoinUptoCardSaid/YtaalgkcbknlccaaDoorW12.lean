/-
  next, in one word.
-/
import Derived.Test.YtaalgkcbknlccaaDoorW11
namespace Go.Proofs.YtaalgkcbknlccaaDoor
open Go.RowKit M

theorem M.nx_at (c : UInt8) (r r' : Bs) (h : r = c :: r') :
    nx r = if isL c.toNat then (if 32 < spn isLD r then (0, 0, 3) else (if kw (r.take (spn isLD r)) then 3 else 1, spn isLD r, 0))
      else if isD c.toNat then (if numOk (r.take (spn isD r)) && !hdL (r.drop (spn isD r)) then (2, spn isD r, 0) else (0, 0, 4))
      else if r.take 2 = [47, 47] then (5, spn notFeed r, 0)
      else if opOf r = 0 then (0, 0, 4) else (4, opOf r, 0) := by
  subst h; rfl

/-- The state behind a token. -/
def after (k : Nat) (ins : Bool) (t : Bs) : Bool := if k = 5 then ins else endB k t

section
variable {C a : Nat} {s : ByteArray} {ins : Bool} {w : World}

theorem next_ok (h : Sc w C s a ins) (hs : s.size ≤ 20000) (ha : a < s.size) (hG : Glob w) (hC2 : 2 < C) (h10 : s[a].toNat ≠ 10) {k n : Nat} (hx : nx (s.data.toList.drop a) = (k, n, 0)) :
    Calls Tryd.prog 31 #[.pointer (some ⟨C, 0, none⟩)] w (Ends w C s k (s.extract a (a + n)) a 0 (a + n) (after k ins ((s.data.toList.drop a).take n))) := by
  have g10 : ((s[a].toNat : Int) == 10) = false := by simp; omega
  rw [nx_at _ _ _ (drop_at s a ha)] at hx
  by_cases c1 : isL s[a].toNat = true
  · rw [if_pos c1] at hx
    by_cases c2 : 32 < spn isLD (s.data.toList.drop a)
    · rw [if_pos c2] at hx; simp at hx
    · rw [if_neg c2] at hx
      simp only [Prod.mk.injEq, and_true] at hx
      obtain ⟨rfl, rfl⟩ := hx
      have e5 : after (if kw ((s.data.toList.drop a).take (spn isLD (s.data.toList.drop a))) = true then 3 else 1) ins ((s.data.toList.drop a).take (spn isLD (s.data.toList.drop a))) = endB (kwKind ((s.data.toList.drop a).take (spn isLD (s.data.toList.drop a)))) ((s.data.toList.drop a).take (spn isLD (s.data.toList.drop a))) := by
        unfold after kwKind
        rw [if_neg (by split <;> omega)]
      rw [e5]
      exact next_name C a _ s ins w h ha hG hC2 rfl g10 c1 _ a 0 _ _ _ (fun W hW _ => name_good hW hs ha c2)
  · rw [if_neg c1] at hx
    have c1' : isL s[a].toNat = false := by simpa using c1
    by_cases c2 : isD s[a].toNat = true
    · rw [if_pos c2] at hx
      split at hx
      · rename_i c3
        simp only [Prod.mk.injEq, and_true] at hx
        obtain ⟨rfl, rfl⟩ := hx
        simp only [Bool.and_eq_true, Bool.not_eq_true'] at c3
        have e5 : after 2 ins ((s.data.toList.drop a).take (spn isD (s.data.toList.drop a))) = endB 2 (s.extract a (a + spn isD (s.data.toList.drop a))).toList := by rw [ext_toList]; rfl
        rw [e5]
        exact next_int C a _ s ins w h ha hG hC2 rfl g10 c1' c2 2 a 0 _ _ _ (fun W hW _ => int_good hW hs ha c2 c3.1 c3.2)
      · simp at hx
    · rw [if_neg c2] at hx
      have c2' : isD s[a].toNat = false := by simpa using c2
      by_cases c3 : (s.data.toList.drop a).take 2 = [47, 47]
      · rw [if_pos c3] at hx
        simp only [Prod.mk.injEq, and_true] at hx
        obtain ⟨rfl, rfl⟩ := hx
        exact next_comment C a _ s ins w h ha hG hC2 rfl g10 c1' c2' (slashes s a true (by simpa using c3)) 5 a _ _ _ (fun W hW _ => comment_tok C a s ins W hW hs (by omega))
      · rw [if_neg c3] at hx
        by_cases c4 : opOf (s.data.toList.drop a) = 0
        · rw [if_pos c4] at hx; simp at hx
        · rw [if_neg c4] at hx
          simp only [Prod.mk.injEq, and_true] at hx
          obtain ⟨rfl, rfl⟩ := hx
          have e5 : after 4 ins ((s.data.toList.drop a).take (opOf (s.data.toList.drop a))) = endB 4 (s.extract a (a + opOf (s.data.toList.drop a))).toList := by rw [ext_toList]; rfl
          rw [e5]
          exact next_op C a _ s ins w h ha hG hC2 rfl g10 c1' c2' (slashes s a false (by simpa using c3)) 4 a 0 _ _ _ (fun W hW hGW => oper_good hW hs ha hGW hC2 c4)

theorem next_err (h : Sc w C s a ins) (hs : s.size ≤ 20000) (ha : a < s.size) (hG : Glob w) (hC2 : 2 < C) (h10 : s[a].toNat ≠ 10) (hx : (nx (s.data.toList.drop a)).2.2 ≠ 0) :
    Calls Tryd.prog 31 #[.pointer (some ⟨C, 0, none⟩)] w (Ends w C s 0 ⟨#[]⟩ 0 (nx (s.data.toList.drop a)).2.2 a ins) := by
  have g10 : ((s[a].toNat : Int) == 10) = false := by simp; omega
  rw [nx_at _ _ _ (drop_at s a ha)] at hx ⊢
  by_cases c1 : isL s[a].toNat = true
  · rw [if_pos c1] at hx ⊢
    by_cases c2 : 32 < spn isLD (s.data.toList.drop a)
    · rw [if_pos c2]
      exact next_name C a _ s ins w h ha hG hC2 rfl g10 c1 0 0 3 _ _ _ (fun W hW _ => name_long C a s ins W hW hs (by omega) c2)
    · rw [if_neg c2] at hx; simp at hx
  · rw [if_neg c1] at hx ⊢
    have c1' : isL s[a].toNat = false := by simpa using c1
    by_cases c2 : isD s[a].toNat = true
    · rw [if_pos c2] at hx ⊢
      split at hx
      · simp at hx
      · rename_i c3
        rw [if_neg c3]
        exact next_int C a _ s ins w h ha hG hC2 rfl g10 c1' c2 0 0 4 _ _ _ (fun W hW hGW => int_bad hW hs ha hGW hC2 c2 (by simpa using c3))
    · rw [if_neg c2] at hx ⊢
      have c2' : isD s[a].toNat = false := by simpa using c2
      by_cases c3 : (s.data.toList.drop a).take 2 = [47, 47]
      · rw [if_pos c3] at hx; simp at hx
      · rw [if_neg c3] at hx ⊢
        by_cases c4 : opOf (s.data.toList.drop a) = 0
        · rw [if_pos c4]
          exact next_op C a _ s ins w h ha hG hC2 rfl g10 c1' c2' (slashes s a false (by simpa using c3)) 0 0 4 _ _ _ (fun W hW hGW => oper_bad hW ha hGW hC2 c4)
        · rw [if_neg c4] at hx; simp at hx

theorem next_nl (h : Sc w C s a ins) (hs : s.size ≤ 20000) (ha : a < s.size) (hG : Glob w) (hC2 : 2 < C) (h10 : s[a].toNat = 10) :
    Calls Tryd.prog 31 #[.pointer (some ⟨C, 0, none⟩)] w (Ends w C s 4 ⟨#[59]⟩ a 0 (a + 1) false) := by
  refine next_feed C a _ s ins w h ha hG hC2 rfl (by simp [h10]) 4 a _ _ _ (fun W hW _ => semicolon_tok C a s ins W hW hs ha ?_)
  rw [ext_toList, drop_at s a ha]
  have : s[a] = 10 := UInt8.toNat_inj.1 h10
  simp [this]
end
end Go.Proofs.YtaalgkcbknlccaaDoor
