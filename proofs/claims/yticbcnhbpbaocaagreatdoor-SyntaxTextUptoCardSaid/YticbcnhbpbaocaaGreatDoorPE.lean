/-
  The walk of places: return, calls, what is no kind.
  The walk of places, at every node.
  The walk of places: return, calls, what is no kind.
  The walk of places: return, calls, what is no kind.
  The walks of isName, isBinary, isTypeText, textFits, numFits.
  The walks of textFits, childrenFit, permitted, Valid.
  The walks of childrenFit, permitted, Valid.
-/
import Derived.Test.YticbcnhbpbaocaaGreatDoorPA
import Derived.Test.YticbcnhbpbaocaaGreatDoorPB
import Derived.Test.YticbcnhbpbaocaaGreatDoorPC
import Derived.Test.YticbcnhbpbaocaaGreatDoorPD
import Derived.Test.YticbcnhbpbaocaaGreatDoorWD

set_option linter.all false
namespace Go.Proofs.YticbcnhbpbaocaaGreatDoor
open Go.RowKit T T.Fo

theorem repeat_min (f : Fn) (cp : Array Value) (w : World) (m : Nat) (hm : m ≤ 1048576) : Calls Tryz.prog 82 #[.func f #[] cp, .int .i64 (min (m : Int) 1)] w fun e w' => ∃ g, e = .returned (.slice (some ⟨g, 0, none⟩) (min m 1) (min m 1)) ∧ w.heap.size ≤ g ∧ g < w'.heap.size ∧ w'.heap[g]? = some (.cells (fillRow (.func f #[] cp) (min m 1) (min m 1)).toArray 70 (0, 0)) ∧ Below w.heap.size w w' := by
  have e : min (m : Int) 1 = ((min m 1 : Nat) : Int) := by omega
  rw [e]
  exact repeat_any f cp w (min m 1) (by omega)
set_option maxRecDepth 100000 in
set_option maxHeartbeats 40000000 in
theorem places_20 (k : Int) (hk : k = 20) (t : ByteArray) (n p tk : Int) (tn : ByteArray) (r u : Int) (A : Option Addr) (m cap : Nat) (w : World) (hm : m ≤ 1048576) :
    Calls Tryz.prog 62 #[nv ⟨k, t, n, p, tk, tn, r, u⟩ A m cap] w (Placed w (plist k m)) := by
  have HK := Lib.hid hk
  clear hk
  have HO := Lib.hid (fun A n c wz => oneOf_any A n c wz)
  go_enter Tryz.func62, Tryz.ntmps62
  go_upto_region 1 with fail
  go_cut [3, 4] (fun s3 s4 wx => s3 = .int .i64 (m : Int) ∧ s4 = .func (.func 108) #[] #[.pointer (some ⟨w.heap.size + 1 + 1, 0, none⟩)] ∧ wx = W3 w ⟨k, t, n, p, tk, tn, r, u⟩ A m cap)
  case first =>
    go_region_law ((go_simp; go_at_call 81; refine (HO.out _ _ _ _).mono ?_; rintro e w' ⟨rfl, rfl⟩))
    all_goals (go_wp2_with fail; go_meet; exact ⟨rfl, rfl, rfl⟩)
  case rest =>
    obtain ⟨rfl, rfl, rfl⟩ := hcut
    rcases HK.out with rfl
    go_wp2_with (first
        | (go_at_call 81; refine (HO.out _ _ _ _).mono ?_; rintro e w' ⟨rfl, rfl⟩)
        | (go_at_call 82; refine (repeat_min (.func 86) #[] _ m hm).mono ?_; rintro e w' ⟨g, rfl, H⟩))
    go_ret
    exact placed_rep (p := .base .expr) H (((((Below.refl w.heap.size w).alloc (Nat.le_refl _) _).alloc (by simp only [World.size_alloc]; omega) _).alloc (by simp only [World.size_alloc]; omega) _).drew) rfl rfl rfl
end Go.Proofs.YticbcnhbpbaocaaGreatDoor

namespace Go.Proofs.YticbcnhbpbaocaaGreatDoor
open Go.RowKit T T.Fo

theorem repeat_max (f : Fn) (cp : Array Value) (w : World) (m : Nat) (hm : m ≤ 1048576) : Calls Tryz.prog 82 #[.func f #[] cp, .int .i64 (max (m : Int) 1)] w fun e w' => ∃ g, e = .returned (.slice (some ⟨g, 0, none⟩) (max m 1) (max m 1)) ∧ w.heap.size ≤ g ∧ g < w'.heap.size ∧ w'.heap[g]? = some (.cells (fillRow (.func f #[] cp) (max m 1) (max m 1)).toArray 70 (0, 0)) ∧ Below w.heap.size w w' := by
  have e : max (m : Int) 1 = ((max m 1 : Nat) : Int) := by omega
  rw [e]
  exact repeat_any f cp w (max m 1) (by omega)
set_option maxRecDepth 100000 in
set_option maxHeartbeats 40000000 in
theorem places_30 (k : Int) (hk : k = 30) (t : ByteArray) (n p tk : Int) (tn : ByteArray) (r u : Int) (A : Option Addr) (m cap : Nat) (w : World) (hm : m ≤ 1048576) :
    Calls Tryz.prog 62 #[nv ⟨k, t, n, p, tk, tn, r, u⟩ A m cap] w (Placed w (plist k m)) := by
  have HK := Lib.hid hk
  clear hk
  have HO := Lib.hid (fun A n c wz => oneOf_any A n c wz)
  go_enter Tryz.func62, Tryz.ntmps62
  go_upto_region 1 with fail
  go_cut [3, 4] (fun s3 s4 wx => s3 = .int .i64 (m : Int) ∧ s4 = .func (.func 108) #[] #[.pointer (some ⟨w.heap.size + 1 + 1, 0, none⟩)] ∧ wx = W3 w ⟨k, t, n, p, tk, tn, r, u⟩ A m cap)
  case first =>
    go_region_law ((go_simp; go_at_call 81; refine (HO.out _ _ _ _).mono ?_; rintro e w' ⟨rfl, rfl⟩))
    all_goals (go_wp2_with fail; go_meet; exact ⟨rfl, rfl, rfl⟩)
  case rest =>
    obtain ⟨rfl, rfl, rfl⟩ := hcut
    rcases HK.out with rfl
    go_wp2_with (first
        | (go_at_call 81; refine (HO.out _ _ _ _).mono ?_; rintro e w' ⟨rfl, rfl⟩)
        | (go_at_call 82; refine (repeat_max (.func 86) #[] _ m hm).mono ?_; rintro e w' ⟨g, rfl, H⟩))
    go_ret
    exact placed_rep (p := .base .expr) H (((((Below.refl w.heap.size w).alloc (Nat.le_refl _) _).alloc (by simp only [World.size_alloc]; omega) _).alloc (by simp only [World.size_alloc]; omega) _).drew) rfl rfl rfl
end Go.Proofs.YticbcnhbpbaocaaGreatDoor

namespace Go.Proofs.YticbcnhbpbaocaaGreatDoor
open Go.RowKit T T.Fo

set_option maxRecDepth 100000 in
set_option maxHeartbeats 40000000 in
theorem places_no (k : Int) (hk : ¬ k = 1 ∧ ¬ k = 10 ∧ ¬ k = 11 ∧ ¬ k = 17 ∧ ¬ k = 21 ∧ ¬ k = 28 ∧ ¬ k = 31 ∧ ¬ k = 33 ∧ ¬ k = 35 ∧ ¬ k = 36 ∧ ¬ k = 37 ∧ ¬ k = 12 ∧ ¬ k = 16 ∧ ¬ k = 29 ∧ ¬ k = 32 ∧ ¬ k = 2 ∧ ¬ k = 5 ∧ ¬ k = 22 ∧ ¬ k = 3 ∧ ¬ k = 4 ∧ ¬ k = 6 ∧ ¬ k = 13 ∧ ¬ k = 14 ∧ ¬ k = 15 ∧ ¬ k = 18 ∧ ¬ k = 19 ∧ ¬ k = 23 ∧ ¬ k = 38 ∧ ¬ k = 20 ∧ ¬ k = 30) (t : ByteArray) (n p tk : Int) (tn : ByteArray) (r u : Int) (A : Option Addr) (m cap : Nat) (w : World) (hm : m ≤ 1048576) :
    Calls Tryz.prog 62 #[nv ⟨k, t, n, p, tk, tn, r, u⟩ A m cap] w (Placed w (plist k m)) := by
  obtain ⟨q1, q10, q11, q17, q21, q28, q31, q33, q35, q36, q37, q12, q16, q29, q32, q2, q5, q22, q3, q4, q6, q13, q14, q15, q18, q19, q23, q38, q20, q30⟩ := hk
  have HPL : Hid (plist k m = []) := by
    unfold plist
    repeat rw [if_neg (by omega)]
    exact (rfl : ([] : List Pp) = [])
  have b1 : (k == 1) = false := by simpa using q1
  have b10 : (k == 10) = false := by simpa using q10
  have b11 : (k == 11) = false := by simpa using q11
  have b17 : (k == 17) = false := by simpa using q17
  have b21 : (k == 21) = false := by simpa using q21
  have b28 : (k == 28) = false := by simpa using q28
  have b31 : (k == 31) = false := by simpa using q31
  have b33 : (k == 33) = false := by simpa using q33
  have b35 : (k == 35) = false := by simpa using q35
  have b36 : (k == 36) = false := by simpa using q36
  have b37 : (k == 37) = false := by simpa using q37
  have b12 : (k == 12) = false := by simpa using q12
  have b16 : (k == 16) = false := by simpa using q16
  have b29 : (k == 29) = false := by simpa using q29
  have b32 : (k == 32) = false := by simpa using q32
  have b2 : (k == 2) = false := by simpa using q2
  have b5 : (k == 5) = false := by simpa using q5
  have b22 : (k == 22) = false := by simpa using q22
  have b3 : (k == 3) = false := by simpa using q3
  have b4 : (k == 4) = false := by simpa using q4
  have b6 : (k == 6) = false := by simpa using q6
  have b13 : (k == 13) = false := by simpa using q13
  have b14 : (k == 14) = false := by simpa using q14
  have b15 : (k == 15) = false := by simpa using q15
  have b18 : (k == 18) = false := by simpa using q18
  have b19 : (k == 19) = false := by simpa using q19
  have b23 : (k == 23) = false := by simpa using q23
  have b38 : (k == 38) = false := by simpa using q38
  have b20 : (k == 20) = false := by simpa using q20
  have b30 : (k == 30) = false := by simpa using q30
  have HO := Lib.hid (fun A n c wz => oneOf_any A n c wz)
  go_enter Tryz.func62, Tryz.ntmps62
  go_upto_region 1 with fail
  go_cut [3, 4] (fun s3 s4 wx => s3 = .int .i64 (m : Int) ∧ s4 = .func (.func 108) #[] #[.pointer (some ⟨w.heap.size + 1 + 1, 0, none⟩)] ∧ wx = W3 w ⟨k, t, n, p, tk, tn, r, u⟩ A m cap)
  case first =>
    go_region_law ((go_simp; go_at_call 81; refine (HO.out _ _ _ _).mono ?_; rintro e w' ⟨rfl, rfl⟩))
    all_goals (go_wp2_with fail; go_meet; exact ⟨rfl, rfl, rfl⟩)
  case rest =>
    obtain ⟨rfl, rfl, rfl⟩ := hcut
    go_wp2
    go_ret
    rw [HPL.out]
    exact ⟨none, 0, rfl, .inl rfl, ((((Below.refl w.heap.size w).alloc (Nat.le_refl _) _).alloc (by simp only [World.size_alloc]; omega) _).alloc (by simp only [World.size_alloc]; omega) _).drew⟩
end Go.Proofs.YticbcnhbpbaocaaGreatDoor

namespace Go.Proofs.YticbcnhbpbaocaaGreatDoor
open Go.RowKit T T.Fo

theorem places_any (h : Hd) (A : Option Addr) (m cap : Nat) (w : World) (hm : m ≤ 1048576) : Calls Tryz.prog 62 #[nv h A m cap] w (Placed w (plist h.kind m)) := by
  obtain ⟨k, t, n, p, tk, tn, r, u⟩ := h
  by_cases g_places_1 : k = 1
  · exact places_1 k g_places_1 t n p tk tn r u A m cap w hm
  by_cases g_places_10 : k = 10
  · exact places_10 k g_places_10 t n p tk tn r u A m cap w hm
  by_cases g_places_11 : k = 11 ∨ k = 17 ∨ k = 21 ∨ k = 28 ∨ k = 31 ∨ k = 33 ∨ k = 35 ∨ k = 36 ∨ k = 37
  · exact places_11 k g_places_11 t n p tk tn r u A m cap w hm
  by_cases g_places_12 : k = 12 ∨ k = 16 ∨ k = 29 ∨ k = 32
  · exact places_12 k g_places_12 t n p tk tn r u A m cap w hm
  by_cases g_places_2 : k = 2 ∨ k = 5
  · exact places_2 k g_places_2 t n p tk tn r u A m cap w hm
  by_cases g_places_22 : k = 22
  · exact places_22 k g_places_22 t n p tk tn r u A m cap w hm
  by_cases g_places_3 : k = 3
  · exact places_3 k g_places_3 t n p tk tn r u A m cap w hm
  by_cases g_places_4 : k = 4
  · exact places_4 k g_places_4 t n p tk tn r u A m cap w hm
  by_cases g_places_6 : k = 6
  · exact places_6 k g_places_6 t n p tk tn r u A m cap w hm
  by_cases g_places_13 : k = 13
  · exact places_13 k g_places_13 t n p tk tn r u A m cap w hm
  by_cases g_places_14 : k = 14 ∨ k = 15
  · exact places_14 k g_places_14 t n p tk tn r u A m cap w hm
  by_cases g_places_18 : k = 18
  · exact places_18 k g_places_18 t n p tk tn r u A m cap w hm
  by_cases g_places_19 : k = 19
  · exact places_19 k g_places_19 t n p tk tn r u A m cap w hm
  by_cases g_places_23 : k = 23
  · exact places_23 k g_places_23 t n p tk tn r u A m cap w hm
  by_cases g_places_38 : k = 38
  · exact places_38 k g_places_38 t n p tk tn r u A m cap w hm
  by_cases g_places_20 : k = 20
  · exact places_20 k g_places_20 t n p tk tn r u A m cap w hm
  by_cases g_places_30 : k = 30
  · exact places_30 k g_places_30 t n p tk tn r u A m cap w hm
  refine places_no k ?_ t n p tk tn r u A m cap w hm
  omega
end Go.Proofs.YticbcnhbpbaocaaGreatDoor

namespace Go.Proofs.YticbcnhbpbaocaaGreatDoor
open Go.RowKit T T.Fo

/-- Whether a text is a name, by the program's own words: it scans to one token, a name, the whole text. -/
def nmS (l : List UInt8) : Bool := match M.scanL l with | [t] => t.k == 1 && t.t == l | _ => false
def nm (s : ByteArray) : Bool := nmS s.data.toList

set_option maxRecDepth 100000 in
set_option maxHeartbeats 1000000 in
theorem isName_any (s : ByteArray) (w : World) (hm : s.size ≤ maxLen) (hG : Glob w) : Calls Tryz.prog 58 #[.string s] w fun e w' => e = .returned (.bool (nm s)) ∧ Below w.heap.size w w' := by
  have HC := Lib.hid (scan_any s w hm hG)
  have HN : Hid (nm s = match M.scanL s.data.toList with | [t] => t.k == 1 && t.t == s.data.toList | _ => false) := rfl
  clear hG
  by_cases h1 : ∃ t, M.scanL s.data.toList = [t]
  · obtain ⟨t, ht⟩ := h1
    rw [ht] at HC HN
    have HT := Lib.hid ht
    clear ht
    go_enter Tryz.func58, Tryz.ntmps58
    go_wp2_with fail
    refine HC.out.mono ?_
    rintro e w2 ⟨A, cap, rfl, ho, hb⟩
    have hA : ∃ g, A = some ⟨g, 0, none⟩ := by
      rcases ho.2 with ⟨_, h0⟩ | ⟨g, c, cur, hv, _⟩
      · simp at h0
      · injection hv with e1 _ _
        exact ⟨g, e1⟩
    obtain ⟨g, rfl⟩ := hA
    have hl := lies_of ho
    obtain ⟨c0, c1, c2⟩ := hl 0 (by simp)
    simp only [Nat.zero_mul, Nat.zero_add, List.getElem_cons_zero] at c0 c1 c2
    have HB := Lib.hid hb
    clear ho hb hl
    by_cases hk : t.k = 1
    · have hk1 : ((t.k : Int) == 1) = true := by simp [hk]
      have HK := Lib.hid hk
      clear hk
      go_wp2
      go_ret
      refine ⟨ret_bool ?_, HB.out⟩
      rw [HN.out]
      simp [HK.out, ByteArray.toList_eq]
    · have hk1 : ((t.k : Int) == 1) = false := by simp; omega
      have HK := Lib.hid hk
      clear hk
      go_wp2
      go_ret
      refine ⟨ret_bool ?_, HB.out⟩
      rw [HN.out]
      simp [HK.out]
  · have hn : nm s = false := by
      rw [HN.out]
      split
      · rename_i t ht; exact absurd ⟨t, ht⟩ h1
      · rfl
    have HNF := Lib.hid hn
    have hl1 : ((M.scanL s.data.toList).length : Int) ≠ 1 := by
      intro e
      have : (M.scanL s.data.toList).length = 1 := by omega
      obtain ⟨t, ht⟩ := List.length_eq_one_iff.1 this
      exact h1 ⟨t, ht⟩
    have hl2 : (((M.scanL s.data.toList).length : Int) == 1) = false := by simpa using hl1
    clear h1 hn hl1
    go_enter Tryz.func58, Tryz.ntmps58
    go_wp2_with fail
    refine HC.out.mono ?_
    rintro e w2 ⟨A, cap, rfl, ho, hb⟩
    have HB := Lib.hid hb
    clear ho hb
    go_wp2
    go_ret
    exact ⟨ret_bool HNF.out.symm, HB.out⟩

theorem in_yes {l : List (List UInt8)} {s t : List UInt8} (h : (s == t) = true) (ht : l.contains t = true) : true = l.contains s := by
  rw [beq_iff_eq] at h; subst h; exact ht.symm
set_option maxRecDepth 100000 in
set_option maxHeartbeats 1000000 in
theorem isBinary_any (s : ByteArray) (w : World) : Calls Tryz.prog 59 #[.string s] w fun e w' => e = .returned (.bool (T.isBinary s)) ∧ w = w' := by
  have e : T.isBinary s = binWords.contains s.toList := by unfold T.isBinary; rw [ByteArray.toList_eq]
  rw [e]
  go_enter Tryz.func59, Tryz.ntmps59
  go_wp2
  all_goals go_ret
  all_goals refine ⟨ret_bool ?_, rfl⟩
  all_goals first
    | (refine in_yes (by assumption) (by decide))
    | (simp_all [binWords])
set_option maxRecDepth 100000 in
set_option maxHeartbeats 1000000 in
theorem isTypeText_any (s : ByteArray) (w : World) : Calls Tryz.prog 60 #[.string s] w fun e w' => e = .returned (.bool (T.isTypeText s)) ∧ w = w' := by
  have e : T.isTypeText s = typeWords.contains s.toList := by unfold T.isTypeText; rw [ByteArray.toList_eq]
  rw [e]
  go_enter Tryz.func60, Tryz.ntmps60
  go_wp2
  all_goals go_ret
  all_goals refine ⟨ret_bool ?_, rfl⟩
  all_goals first
    | (refine in_yes (by assumption) (by decide))
    | (simp_all [typeWords])

set_option maxRecDepth 100000 in
set_option maxHeartbeats 2000000 in
theorem numFits_any (h : Hd) (A : Option Addr) (n cap : Nat) (w : World) : Calls Tryz.prog 43 #[nv h A n cap] w fun e w' => e = .returned (.bool (numFits h)) ∧ Below w.heap.size w w' := by
  go_enter Tryz.func43, Tryz.ntmps43
  go_wp2
  all_goals go_ret
  all_goals exact ⟨ret_bool (by unfold numFits; simp_all), (Below.refl _ _).alloc (Nat.le_refl _) _⟩
end Go.Proofs.YticbcnhbpbaocaaGreatDoor

namespace Go.Proofs.YticbcnhbpbaocaaGreatDoor
open Go.RowKit T T.Fo

theorem glob_below {w w' : World} (h : Glob w) (hb : Below w.heap.size w w') : Glob w' := by
  obtain ⟨⟨te, pe, h1⟩, h2, h3⟩ := h
  exact ⟨⟨te, pe, (hb.cell (p := ⟨4, 0, none⟩) h3).trans h1⟩, fun i hi => (hb.cell (p := ⟨0, i, none⟩) (by show 0 < _; omega)).trans (h2 i hi), by have := hb.size; omega⟩

set_option maxRecDepth 100000 in
set_option maxHeartbeats 4000000 in
theorem textFits_any (h : Hd) (A : Option Addr) (n cap : Nat) (w : World) (hm : h.text.size ≤ maxLen) (hG : Glob w) : Calls Tryz.prog 42 #[nv h A n cap] w fun e w' => e = .returned (.bool (textFits nm h)) ∧ Below w.heap.size w w' := by
  have HN := Lib.hid (fun o => isName_any h.text (w.alloc o) hm (glob_below hG ((Below.refl _ _).alloc (Nat.le_refl _) o)))
  clear hG
  go_enter Tryz.func42, Tryz.ntmps42
  go_wp2_with (first
    | (go_at_call 58; refine (HN.out _).mono ?_; rintro e w' ⟨rfl, hb⟩)
    | (go_at_call 59; refine (isBinary_any _ _).mono ?_; rintro e w' ⟨rfl, rfl⟩)
    | (go_at_call 60; refine (isTypeText_any _ _).mono ?_; rintro e w' ⟨rfl, rfl⟩))
  all_goals go_ret
  all_goals first
    | exact ⟨ret_bool (by unfold textFits namedK; simp_all [ByteArray.toList_eq]), below_al1 hb⟩
    | exact ⟨ret_bool (by unfold textFits namedK; simp_all [ByteArray.toList_eq]), (Below.refl _ _).alloc (Nat.le_refl _) _⟩
    | skip
  go_ways
end Go.Proofs.YticbcnhbpbaocaaGreatDoor

namespace Go.Proofs.YticbcnhbpbaocaaGreatDoor
open Go.RowKit T T.Fo

/-- The box of a node. -/
def Nb (W : World) (b : Nat) (h : Hd) (A : Option Addr) (n cap : Nat) : Prop :=
  W.heap[b]? = some (.cells #[.int .i64 h.kind, .string h.text, .int .i64 h.num, .int .i64 h.pos, .slice A n cap, .int .i64 h.tk, .string h.tn, .int .i64 h.ref, .int .i64 h.up] 26 (0, 0))
theorem Nb.cells {W : World} {b n cap : Nat} {h : Hd} {A : Option Addr} (H : Nb W b h A n cap) :
    W.cell? ⟨b, 0, none⟩ = some (.int .i64 h.kind) ∧ W.cell? ⟨b, 1, none⟩ = some (.string h.text) ∧ W.cell? ⟨b, 2, none⟩ = some (.int .i64 h.num) ∧ W.cell? ⟨b, 3, none⟩ = some (.int .i64 h.pos) ∧ W.cell? ⟨b, 4, none⟩ = some (.slice A n cap) ∧ W.cell? ⟨b, 5, none⟩ = some (.int .i64 h.tk) ∧ W.cell? ⟨b, 6, none⟩ = some (.string h.tn) ∧ W.cell? ⟨b, 7, none⟩ = some (.int .i64 h.ref) ∧ W.cell? ⟨b, 8, none⟩ = some (.int .i64 h.up) := by
  unfold Nb at H
  refine ⟨?_, ?_, ?_, ?_, ?_, ?_, ?_, ?_, ?_⟩ <;> simp [World.cell?, H]
theorem Nb.new (w : World) (h : Hd) (A : Option Addr) (n cap : Nat) : Nb (w.alloc (.cells #[.int .i64 h.kind, .string h.text, .int .i64 h.num, .int .i64 h.pos, .slice A n cap, .int .i64 h.tk, .string h.tn, .int .i64 h.ref, .int .i64 h.up] 26)) w.heap.size h A n cap := heap_alloc_new w _
theorem Nb.lt {W : World} {b n cap : Nat} {h : Hd} {A : Option Addr} (H : Nb W b h A n cap) : b < W.heap.size := (Array.getElem?_eq_some_iff.1 H).1
theorem Nb.below {W W' : World} {b n cap : Nat} {h : Hd} {A : Option Addr} (H : Nb W b h A n cap) (hb : Below W.heap.size W W') : Nb W' b h A n cap := (hb.block b H.lt).trans H

/-- Behind the call of places. -/
theorem after_places {w W w2 : World} {h : Hd} {F : Fo} {A : Option Addr} {cap : Nat} {l : List Pp} {e : Ending} (hk : Kids (Lt w.heap.size) w A F) (hW : W.heap = (w.alloc (.cells #[.int .i64 h.kind, .string h.text, .int .i64 h.num, .int .i64 h.pos, .slice A F.len cap, .int .i64 h.tk, .string h.tn, .int .i64 h.ref, .int .i64 h.up] 26)).heap) (e0 : W.os = w.os) (e1 : W.tape = w.tape) (e2 : W.output = w.output) (hp : Placed W l e w2) :
    ∃ B c, e = .returned (.slice B l.length c) ∧ PlRow (Lt w2.heap.size) w2 B l ∧ Kids (Lt w2.heap.size) w2 A F ∧ Below w.heap.size w w2 ∧ w2.cell? ⟨w.heap.size, 4, none⟩ = some (.slice A F.len cap) := by
  obtain ⟨B, c, he, hr, hb⟩ := hp
  have hs : W.heap.size = w.heap.size + 1 := by rw [hW]; simp
  have h1 : Below w.heap.size w W := ⟨e0, e1, e2, by omega, fun k hk => by rw [hW]; exact Below.heap_alloc w _ k hk⟩
  have h2 : Below w.heap.size w w2 := h1.trans (hb.mono (by omega))
  have h3 : Nb W w.heap.size h A F.len cap := by unfold Nb; rw [hW]; exact heap_alloc_new w _
  exact ⟨B, c, he, hr, (hk.below h2 (Nat.le_refl _)).mono h2.size, h2, (h3.below hb).cells.2.2.2.2.1⟩

set_option maxRecDepth 100000 in
set_option maxHeartbeats 4000000 in
theorem childrenFit_any (h : Hd) (F : Fo) (A : Option Addr) (cap : Nat) (w : World) (hk : Kids (Lt w.heap.size) w A F) (hm : F.cnt ≤ 1048576) :
    Calls Tryz.prog 44 #[nv h A F.len cap] w fun e w' => e = .returned (.bool (childrenFit h F)) ∧ Below w.heap.size w w' := by
  have hlen : F.len ≤ 1048576 := by have := F.len_le_cnt; omega
  have HP := Lib.hid (fun W (hW : W.heap = (w.alloc (.cells #[.int .i64 h.kind, .string h.text, .int .i64 h.num, .int .i64 h.pos, .slice A F.len cap, .int .i64 h.tk, .string h.tn, .int .i64 h.ref, .int .i64 h.up] 26)).heap) (e0 : W.os = w.os) (e1 : W.tape = w.tape) (e2 : W.output = w.output) => (places_any h A F.len cap W hlen).mono fun e w2 hp => after_places hk hW e0 e1 e2 hp)
  have HE := Lib.hid (fun l B c w2 (h1 : PlRow (Lt w2.heap.size) w2 B l) (h2 : Kids (Lt w2.heap.size) w2 A F) => eqplaces_any F l A B cap c w2 h2 h1 hm)
  have HF := Lib.hid (fitP_places h F)
  clear hk
  go_enter Tryz.func44, Tryz.ntmps44
  go_wp2
  go_region_law ((go_simp; first
    | (go_at_call 62; refine (HP.out (w.alloc (.cells #[.int .i64 h.kind, .string h.text, .int .i64 h.num, .int .i64 h.pos, .slice A F.len cap, .int .i64 h.tk, .string h.tn, .int .i64 h.ref, .int .i64 h.up] 26)).drew rfl rfl rfl rfl).mono ?_; rintro e w2 ⟨B, c, rfl, h1, h2, h3, q4⟩; have H1 := Lib.hid h1; have H2 := Lib.hid h2; have H3 := Lib.hid h3; clear h1 h2 h3)
    | (go_at_call 61; refine (HE.out _ B c w2 H1.out H2.out).mono ?_; rintro e w3 ⟨rfl, hb⟩; have HB := Lib.hid hb; clear hb)))
  all_goals
    go_wp2
    go_ret
    exact ⟨ret_bool HF.out, H3.out.trans (HB.out.mono H3.out.size)⟩
end Go.Proofs.YticbcnhbpbaocaaGreatDoor

