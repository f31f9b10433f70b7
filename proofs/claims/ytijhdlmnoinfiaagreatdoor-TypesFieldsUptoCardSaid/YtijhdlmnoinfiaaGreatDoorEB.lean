/-
  The walks of the specification's functions of types.
-/
import Derived.Test.YtijhdlmnoinfiaaGreatDoorEA
import Derived.Test.YtijhdlmnoinfiaaGreatDoorRA
import Derived.Test.YtijhdlmnoinfiaaGreatDoorCA
set_option linter.all false
namespace Go.Proofs.YtijhdlmnoinfiaaGreatDoor
open Go.RowKit Ty

/-- A type as a value. -/
abbrev tyv (k : Int) (s : ByteArray) : Value := .agg #[.int .i64 k, .string s]
theorem b1 (w : World) (o : Obj) : Below w.heap.size w (w.alloc o) := (Below.refl _ _).alloc (Nat.le_refl _) _
theorem b1t {w w' : World} {o : Obj} (h : Below (w.alloc o).heap.size (w.alloc o) w') : Below w.heap.size w w' := (b1 w o).trans (h.mono (by simp))

theorem ise (l : List UInt8) : l.isEmpty = decide (l = []) := by cases l <;> rfl
set_option maxRecDepth 100000 in
theorem rvalid_any (k : Int) (s : ByteArray) (w : World) (hm : s.size ≤ maxLen) : Calls Tryz.prog 22 #[tyv k s] w fun e w' => e = .returned (.bool (vB k s)) ∧ Below w.heap.size w w' := by
  go_enter Tryz.func22, Tryz.ntmps22
  go_wp2_with (go_at_call 43; refine (rname_any _ _ hm).mono ?_; rintro e w' ⟨rfl, rfl⟩)
  all_goals go_ret
  all_goals refine ⟨ret_bool ?_, b1 _ _⟩
  all_goals first
    | (have h4 : k = 4 := by simp_all
       subst h4; rfl)
    | (have h4 : ¬ k = 4 := by simp_all
       unfold vB emp
       rw [if_neg h4, ← ise]
       first
         | (have h0 : decide (0 ≤ k) = true := decide_eq_true (by assumption)
            have h1 : decide (k ≤ 12) = true := decide_eq_true (by assumption)
            rw [h0, h1]; simp)
         | (have h1 : decide (k ≤ 12) = false := decide_eq_false (by omega)
            rw [h1]; simp)
         | (have h1 : decide (0 ≤ k) = false := decide_eq_false (by omega)
            rw [h1]; simp))
set_option maxRecDepth 100000 in
set_option maxHeartbeats 1000000 in
theorem rref_any (k : Int) (s : ByteArray) (w : World) (hm : s.size ≤ maxLen) : Calls Tryz.prog 42 #[tyv k s] w fun e w' => e = .returned (.bool (rB k s)) ∧ Below w.heap.size w w' := by
  obtain ⟨v, hv⟩ : ∃ v, vB k s = v := ⟨_, rfl⟩
  have H : Hid (∀ W, Calls Tryz.prog 22 #[tyv k s] W fun e w' => e = .returned (.bool v) ∧ Below W.heap.size W w') := Lib.hid fun W => hv ▸ rvalid_any k s W hm
  have HV := Lib.hid hv
  clear hv
  cases v <;>
  · go_enter Tryz.func42, Tryz.ntmps42
    go_wp2_with (go_at_call 22; refine (H.out _).mono ?_; rintro e w' ⟨rfl, hb⟩; have HB := Lib.hid (b1t hb); obtain ⟨hc, hf⟩ := bcell hb; clear hb)
    all_goals go_ret
    all_goals refine ⟨ret_bool ?_, HB.out⟩
    all_goals unfold rB
    all_goals rw [HV.out]
    all_goals simp
    all_goals omega
set_option maxRecDepth 100000 in
set_option maxHeartbeats 1000000 in
theorem rvalue_any (k : Int) (s : ByteArray) (w : World) (hm : s.size ≤ maxLen) : Calls Tryz.prog 21 #[tyv k s] w fun e w' => e = .returned (.bool (valB k s)) ∧ Below w.heap.size w w' := by
  have H := Lib.hid (fun k' W => rref_any k' s W hm)
  go_enter Tryz.func21, Tryz.ntmps21
  go_wp2_with (go_at_call 42; refine (H.out _ _).mono ?_; rintro e w' ⟨rfl, hb⟩; have HB := Lib.hid (b1t hb); clear hb)
  all_goals go_ret
  all_goals first
    | refine ⟨ret_bool ?_, HB.out⟩
    | refine ⟨ret_bool ?_, b1 _ _⟩
  all_goals unfold valB isK emp
  all_goals simp_all
set_option maxRecDepth 100000 in
set_option maxHeartbeats 1000000 in
theorem rcell_any (k : Int) (s : ByteArray) (w : World) (hm : s.size ≤ maxLen) : Calls Tryz.prog 19 #[tyv k s] w fun e w' => e = .returned (.int .i64 (celB k s)) ∧ Below w.heap.size w w' := by
  obtain ⟨v, hv⟩ : ∃ v, rB k s = v := ⟨_, rfl⟩
  have H : Hid (∀ W, Calls Tryz.prog 42 #[tyv k s] W fun e w' => e = .returned (.bool v) ∧ Below W.heap.size W w') := Lib.hid fun W => hv ▸ rref_any k s W hm
  have HV := Lib.hid hv
  clear hv
  cases v <;>
  · go_enter Tryz.func19, Tryz.ntmps19
    go_wp2_with (go_at_call 42; refine (H.out _).mono ?_; rintro e w' ⟨rfl, hb⟩; have HB := Lib.hid (b1t hb); clear hb)
    go_ret
    exact ⟨ret_int (by unfold celB; rw [HV.out]; rfl), HB.out⟩
theorem ret_str {a b : ByteArray} (h : a = b) : Ending.returned (.string a) = .returned (.string b) := by rw [h]
theorem cat42 (s : ByteArray) : (⟨#[42]⟩ : ByteArray) ++ s = ⟨(42 :: s.data.toList).toArray⟩ := by
  apply ByteArray.ext
  simp
theorem nam_len {s : ByteArray} (h : nam s = true) : s.size ≤ 32 := by
  unfold nam M.nmB at h
  simp at h
  exact h.1.1.1
theorem v4 (s : ByteArray) : vB 4 s = nam s := rfl
/-- The text's walk: a name that is valid is short. -/
theorem long_no {k : Int} {s : ByteArray} (h : vB k s = true) (hm : s.size ≤ maxLen) : s.size + 1 ≤ 9223372036854775807 ∨ (k == 4) = false := by
  by_cases hk : k = 4
  · subst hk
    have := nam_len ((v4 s).symm.trans h)
    exact .inl (by omega)
  · exact .inr (by simpa using hk)
set_option maxRecDepth 100000 in
set_option maxHeartbeats 2000000 in
theorem rtext_any (k : Int) (s : ByteArray) (w : World) (hm : s.size ≤ maxLen) : Calls Tryz.prog 17 #[tyv k s] w fun e w' => e = .returned (.string (txtB k s)) ∧ Below w.heap.size w w' := by
  obtain ⟨v, hv⟩ : ∃ v, vB k s = v := ⟨_, rfl⟩
  have H : Hid (∀ W, Calls Tryz.prog 22 #[tyv k s] W fun e w' => e = .returned (.bool v) ∧ Below W.heap.size W w') := Lib.hid fun W => hv ▸ rvalid_any k s W hm
  have HV := Lib.hid hv
  have HL : Hid (v = true → s.size + 1 ≤ 9223372036854775807 ∨ (k == 4) = false) := Lib.hid fun e => long_no (hv.trans e) hm
  clear hv hm
  cases v with
  | false =>
    go_enter Tryz.func17, Tryz.ntmps17
    go_wp2_with (go_at_call 22; refine (H.out _).mono ?_; rintro e w' ⟨rfl, hb⟩; have HB := Lib.hid (b1t hb); clear hb)
    go_ret
    exact ⟨ret_str (by unfold txtB txt; rw [HV.out]; rfl), HB.out⟩
  | true =>
    rcases HL.out rfl with hsz | h4
    · have hsz1 : ¬ 9223372036854775807 < 1 + s.size := by omega
      clear HL hsz
      go_enter Tryz.func17, Tryz.ntmps17
      go_wp2_with (go_at_call 22; refine (H.out _).mono ?_; rintro e w' ⟨rfl, hb⟩; have HB := Lib.hid (b1t hb); obtain ⟨hc, hf⟩ := bcell hb; have hz := hb.size; clear hb)
      all_goals go_ret
      all_goals refine ⟨ret_str ?_, HB.out⟩
      all_goals unfold txtB txt
      all_goals rw [HV.out]
      all_goals first
        | (rw [cat42]; simp_all; done)
        | (simp_all; done)
    · clear HL
      go_enter Tryz.func17, Tryz.ntmps17
      go_wp2_with (go_at_call 22; refine (H.out _).mono ?_; rintro e w' ⟨rfl, hb⟩; have HB := Lib.hid (b1t hb); obtain ⟨hc, hf⟩ := bcell hb; have hz := hb.size; clear hb)
      all_goals go_ret
      all_goals refine ⟨ret_str ?_, HB.out⟩
      all_goals unfold txtB txt
      all_goals rw [HV.out]
      all_goals simp_all
theorem ba_ext {s t : ByteArray} (h : s.toList = t.toList) : s = t := by
  rw [ByteArray.toList_eq, ByteArray.toList_eq] at h
  exact ByteArray.ext (Array.toList_inj.1 h)
theorem ba_iff {s t : ByteArray} : s.toList = t.toList ↔ s = t := ⟨ba_ext, fun h => by rw [h]⟩
set_option maxRecDepth 100000 in
set_option maxHeartbeats 2000000 in
theorem rassign_any (k : Int) (s : ByteArray) (k' : Int) (s' : ByteArray) (w : World) (hm : s.size ≤ maxLen) : Calls Tryz.prog 24 #[tyv k s, tyv k' s'] w fun e w' => e = .returned (.bool (asB k s k' s')) ∧ Below w.heap.size w w' := by
  obtain ⟨v, hv⟩ : ∃ v, valB k s = v := ⟨_, rfl⟩
  have H : Hid (∀ W, Calls Tryz.prog 21 #[tyv k s] W fun e w' => e = .returned (.bool v) ∧ Below W.heap.size W w') := Lib.hid fun W => hv ▸ rvalue_any k s W hm
  have HR : Hid (∀ kk W, Calls Tryz.prog 42 #[tyv kk s] W fun e w' => e = .returned (.bool (rB kk s)) ∧ Below W.heap.size W w') := Lib.hid fun kk W => rref_any kk s W hm
  have HV := Lib.hid hv
  clear hv
  cases v with
  | false =>
    go_enter Tryz.func24, Tryz.ntmps24
    go_wp2_with (go_at_call 21; refine (H.out _).mono ?_; rintro e w1 ⟨rfl, hb⟩; have HB := Lib.hid (b1t (b1t hb)); clear hb)
    go_ret
    exact ⟨ret_bool (by unfold asB; rw [HV.out]; rfl), HB.out⟩
  | true =>
    go_enter Tryz.func24, Tryz.ntmps24
    go_wp2_with (first
      | (go_at_call 21; refine (H.out _).mono ?_; rintro e w1 ⟨rfl, hb⟩; have HB := Lib.hid (b1t (b1t hb)); obtain ⟨hc, hf⟩ := bcell hb; have hz := hb.size; clear hb)
      | (go_at_call 42; (with_reducible refine (HR.out _ _).mono ?_); rintro e w2 ⟨rfl, hb2⟩; have HB2 := Lib.hid (HB.out.trans (hb2.mono HB.out.size)); clear hb2))
    all_goals go_ret
    all_goals first
      | refine ⟨ret_bool ?_, HB2.out⟩
      | refine ⟨ret_bool ?_, HB.out⟩
    all_goals unfold asB sm isK emp
    all_goals rw [HV.out]
    all_goals simp_all
end Go.Proofs.YtijhdlmnoinfiaaGreatDoor
