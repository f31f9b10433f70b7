/-
  The walk of the specification's operator.
-/
import Derived.Test.YtaalgkcbknlccaaDoorW11
namespace Go.Proofs.YtaalgkcbknlccaaDoor
open Go.RowKit M

theorem clash {x : Bool} (h1 : x = true) (h2 : x = false) : False := by rw [h1] at h2; cases h2
theorem ret_str {a b : ByteArray} (h : a = b) : Ending.returned (.string a) = .returned (.string b) := by rw [h]
theorem ext0 (s : ByteArray) (n : Nat) : (s.extract 0 n).toList = s.data.toList.take n := by
  have := ext_toList s 0 n
  simpa using this
theorem op_two {s : ByteArray} {p : Bs} (h : ((s.extract 0 2).toList == p) = true) (hp : ops2.contains p = true) : s.extract 0 2 = s.extract 0 (opOf s.data.toList) := by
  rw [beq_iff_eq, ext0] at h
  unfold opOf
  rw [h, if_pos hp]
theorem op_two_bad {s : ByteArray} {p : Bs} (h : ((s.extract 0 2).toList == p) = true) (hp : p.length = 1) (hs : 2 ≤ s.size) : False := by
  rw [beq_iff_eq, ext0] at h
  have := congrArg List.length h
  rw [List.length_take, hp, ← size_list] at this
  omega
theorem op_one {s : ByteArray} {p : Bs} (h : ((s.extract 0 1).toList == p) = true) (hp : ops1.contains p = true) (h2 : ops2.contains (s.data.toList.take 2) = false) : s.extract 0 1 = s.extract 0 (opOf s.data.toList) := by
  rw [beq_iff_eq, ext0] at h
  unfold opOf
  rw [if_neg (by rw [h2]; exact Bool.false_ne_true), h, if_pos hp]
theorem op_one_bad {s : ByteArray} {p : Bs} (h : ((s.extract 0 1).toList == p) = true) (hp : p.length = 2) : False := by
  rw [beq_iff_eq, ext0] at h
  have := congrArg List.length h
  rw [List.length_take, hp] at this
  omega
theorem op_no {s : ByteArray} (h2 : ops2.contains (s.data.toList.take 2) = false) (h1 : ops1.contains (s.data.toList.take 1) = false) : (⟨#[]⟩ : ByteArray) = s.extract 0 (opOf s.data.toList) := by
  unfold opOf
  rw [if_neg (by rw [h2]; exact Bool.false_ne_true), if_neg (by rw [h1]; exact Bool.false_ne_true)]
  refine Go.WideShapes.bytes_inj ?_
  have := ext0 s 0
  rw [ByteArray.toList_eq] at this
  rw [this]; rfl
theorem two_short {s : ByteArray} (h : s.size < 2) : ops2.contains (s.data.toList.take 2) = false := by
  rw [← Bool.not_eq_true]
  intro g
  obtain ⟨j, hj, e⟩ := mem2 _ (by simpa using g)
  have := (len2 j hj).1
  rw [e, List.length_take, ← size_list] at this
  omega
theorem one_short {s : ByteArray} (h : s.size < 1) : ops1.contains (s.data.toList.take 1) = false := by
  rw [← Bool.not_eq_true]
  intro g
  obtain ⟨j, hj, hj2, e⟩ := mem1 _ (by simpa using g)
  have := (len1 j hj hj2).1
  rw [e, List.length_take, ← size_list] at this
  omega
theorem no_two {s : ByteArray} (h : ops2.contains (s.extract 0 2).toList = false) : ops2.contains (s.data.toList.take 2) = false := by rw [← ext0]; exact h
theorem no_one {s : ByteArray} (h : ops1.contains (s.extract 0 1).toList = false) : ops1.contains (s.data.toList.take 1) = false := by rw [← ext0]; exact h

set_option maxRecDepth 100000 in
set_option maxHeartbeats 4000000 in
theorem rop_any (s : ByteArray) (w : World) (hs : s.size ≤ 20000) :
    Calls Tryd.prog 48 #[.string s] w fun e w' => e = .returned (.string (s.extract 0 (opOf s.data.toList))) ∧ w = w' := by
  go_enter Tryd.func48, Tryd.ntmps48
  go_wp2
  go_loop [3] (fun i => i = .int .i64 2 ∨ (i = .int .i64 1 ∧ ops2.contains (s.data.toList.take 2) = false) ∨ (i = .int .i64 0 ∧ ops2.contains (s.data.toList.take 2) = false ∧ ops1.contains (s.data.toList.take 1) = false)) (fun i => (intOf i).toNat)
  case atStart => exact .inl rfl
  case round =>
    rcases hrel with rfl | ⟨rfl, h2⟩ | ⟨rfl, h2, h1⟩
    · by_cases hl : s.size < 2
      · have hd : decide ((s.size : Int) < 2) = true := by simp; omega
        have H2 := Lib.hid (two_short hl)
        go_wp2
        go_round
        case rel => exact .inr (.inl ⟨rfl, H2.out⟩)
        case measure => simp [intOf]
      · have hd : decide ((s.size : Int) < 2) = false := by simp; omega
        have hd2 : (2 : Int) ≤ (s.size : Int) := by omega
        have HL : Hid (2 ≤ s.size) := Lib.hid (by omega)
        clear hl
        go_wp2
        all_goals first
          | (go_ret; exact ⟨ret_str (op_two (by assumption) (by decide)), rfl⟩)
          | (exact (op_two_bad (by assumption) rfl HL.out).elim)
          | (exact (clash (by assumption) (by assumption)).elim)
          | (go_round
             case rel => exact .inr (.inl ⟨rfl, no_two (by simp only [ops2, List.contains_cons, List.contains_nil, Bool.or_self, *])⟩)
             case measure => simp [intOf])
    · have H2 := Lib.hid h2
      clear h2
      by_cases hl : s.size < 1
      · have hd : decide ((s.size : Int) < 1) = true := by simp; omega
        have H1 := Lib.hid (one_short hl)
        go_wp2
        go_round
        case rel => exact .inr (.inr ⟨rfl, H2.out, H1.out⟩)
        case measure => simp [intOf]
      · have hd : decide ((s.size : Int) < 1) = false := by simp; omega
        have hd2 : (1 : Int) ≤ (s.size : Int) := by omega
        clear hl
        go_wp2
        all_goals first
          | (go_ret; exact ⟨ret_str (op_one (by assumption) (by decide) H2.out), rfl⟩)
          | (exact (op_one_bad (by assumption) rfl).elim)
          | (exact (clash (by assumption) (by assumption)).elim)
          | (go_round
             case rel => exact .inr (.inr ⟨rfl, H2.out, no_one (by simp only [ops1, List.contains_cons, List.contains_nil, Bool.or_self, *])⟩)
             case measure => simp [intOf])
    · have H2 := Lib.hid h2
      have H1 := Lib.hid h1
      clear h2 h1
      go_wp2
      go_ret
      exact ⟨ret_str (op_no H2.out H1.out), rfl⟩
end Go.Proofs.YtaalgkcbknlccaaDoor
