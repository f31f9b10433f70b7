/-
  The walk of the law ScanKeywords.
-/
import Derived.Test.YtaalgkcbknlccaaDoorL1
namespace Go.Proofs.YtaalgkcbknlccaaDoor
open Go.RowKit M

theorem kw_scans : kwList.all (fun t => decide (scanL t = [⟨3, t, 0⟩] ∧ scanA t = 0 ∧ scanE t = 0)) = true := by decide +kernel
theorem kw_scan {t : Bs} (h : kw t = true) : scanL t = [⟨3, t, 0⟩] ∧ scanA t = 0 ∧ scanE t = 0 := by
  have := List.all_eq_true.1 kw_scans t (by unfold kw at h; simpa using h)
  simpa using this

theorem bytes_mk (s : ByteArray) : (⟨s.data.toList.toArray⟩ : ByteArray) = s := by simp

theorem scan_kw (s : ByteArray) (w : World) (hm : s.size ≤ maxLen) (hG : Glob w) (hk : kw s.data.toList = true) :
    Calls Tryd.prog 12 #[.string s] w fun e w' => ∃ g cap, e = .returned (.tuple #[.slice (some ⟨g, 0, none⟩) 1 cap, .int .i64 0, .int .i64 0]) ∧ Below w.heap.size w w' ∧
      w'.cell? ⟨g, 0, none⟩ = some (.int .i64 3) ∧ w'.cell? ⟨g, 1, none⟩ = some (.string s) ∧ w'.cell? ⟨g, 2, none⟩ = some (.int .i64 0) := by
  obtain ⟨e1, e2, e3⟩ := kw_scan hk
  refine (scan_any s w hm hG).mono fun e w' h => ?_
  obtain ⟨A, cap, he, ho, hb⟩ := h
  rw [e1] at he ho
  rw [e2, e3] at he
  obtain ⟨g, c, hv, h1, h2⟩ := ho.form Nat.zero_lt_one
  injection hv with q1 q2 q3
  subst q1 q3
  obtain ⟨d0, d1, d2⟩ := lies_of ho 0 Nat.zero_lt_one
  refine ⟨g, cap, he, hb, d0, ?_, d2⟩
  rw [← bytes_mk s]
  exact d1

theorem keyword_at {s : ByteArray} {v : Bool} (h : kw s.toList = v) (w : World) : Calls Tryd.prog 17 #[.string s] w fun e w' => e = .returned (.bool v) ∧ w = w' := by
  rw [← h]; exact keyword_any s w
theorem rkeyword_at {s : ByteArray} {v : Bool} (h : kw s.toList = v) (w : World) : Calls Tryd.prog 18 #[.string s] w fun e w' => e = .returned (.bool v) ∧ w = w' := by
  rw [← h]; exact rkeyword_any s w

set_option maxRecDepth 100000 in
theorem keywords_long (s : ByteArray) (w : World) (hG : Glob w) (hs : 100 < s.size) (hm : s.size ≤ maxLen) : Calls Tryd.prog 6 #[.string s] w fun e w' => e = .returned (.bool true) ∧ Below w.heap.size w w' := by
  unfold maxLen at hm
  have HG := Lib.hid hG
  clear hG
  have hd : decide ((100 : Int) < (s.size : Int)) = true := by simp; omega
  have hd2 : (100 : Int) < (s.size : Int) := by omega
  go_enter Tryd.func6, Tryd.ntmps6
  go_wp2_with fail
  refine (awake_any _ HG.out).mono ?_
  rintro e w1 ⟨rfl, hb1⟩
  go_wp2
  go_ret
  exact ⟨rfl, hb1⟩

set_option maxRecDepth 100000 in
set_option maxHeartbeats 1000000 in
theorem keywords_short (s : ByteArray) (w : World) (hG : Glob w) (hs : s.size ≤ 100) : Calls Tryd.prog 6 #[.string s] w fun e w' => e = .returned (.bool true) ∧ Below w.heap.size w w' := by
  have HG := Lib.hid hG
  clear hG
  have HM : Hid (s.size ≤ maxLen) := Lib.hid (by unfold maxLen; omega)
  have hd : decide ((100 : Int) < (s.size : Int)) = false := by simp; omega
  cases hk : kw s.toList
  · have HK := Lib.hid hk
    clear hk
    go_enter Tryd.func6, Tryd.ntmps6
    go_wp2_with fail
    refine (awake_any _ HG.out).mono ?_
    rintro e w1 ⟨rfl, hb1⟩
    have B1 := Lib.hid hb1
    clear hb1
    go_wp2_with (first | (go_at_call 17; refine (keyword_at HK.out _).mono ?_; rintro e w' ⟨rfl, rfl⟩) | (go_at_call 18; refine (rkeyword_at HK.out _).mono ?_; rintro e w' ⟨rfl, rfl⟩))
    go_ret
    exact ⟨rfl, B1.out⟩
  · have HK := Lib.hid hk
    have HK2 : Hid (kw s.data.toList = true) := by rw [ByteArray.toList_eq] at hk; exact hk
    clear hk
    go_enter Tryd.func6, Tryd.ntmps6
    go_wp2_with fail
    refine (awake_any _ HG.out).mono ?_
    rintro e w1 ⟨rfl, hb1⟩
    have G1 := Lib.hid (HG.out.below hb1)
    have B1 := Lib.hid hb1
    clear hb1
    go_wp2_with (first | (go_at_call 17; refine (keyword_at HK.out _).mono ?_; rintro e w' ⟨rfl, rfl⟩) | (go_at_call 18; refine (rkeyword_at HK.out _).mono ?_; rintro e w' ⟨rfl, rfl⟩))
    refine (scan_kw s w1 HM.out G1.out HK2.out).mono ?_
    rintro e w2 ⟨g, cap, rfl, hb2, d0, d1, d2⟩
    have B2 := Lib.hid (B1.out.trans (hb2.mono B1.out.size))
    clear hb2
    go_wp2
    go_ret
    exact ⟨rfl, B2.out⟩
end Go.Proofs.YtaalgkcbknlccaaDoor
