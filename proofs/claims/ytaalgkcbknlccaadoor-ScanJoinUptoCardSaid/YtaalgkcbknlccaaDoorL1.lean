/-
  The walks of the laws ScanTokens and ScanComments.
-/
import Derived.Test.YtaalgkcbknlccaaDoorK1
namespace Go.Proofs.YtaalgkcbknlccaaDoor
open Go.RowKit M

theorem scanL_len (l : Bs) : (scanL l).length ≤ 20000 := by
  unfold scanL
  split
  · exact Nat.le_trans (List.length_filter_le _ _) (scanR_len l)
  · simp
theorem comL_len (l : Bs) : (comL l).length ≤ 20000 := Nat.le_trans (List.length_filter_le _ _) (scanR_len l)

set_option maxRecDepth 100000 in
theorem tokens_long (s : ByteArray) (w : World) (hG : Glob w) (hs : 600 < s.size) (hm : s.size ≤ maxLen) : Calls Tryd.prog 3 #[.string s] w fun e w' => e = .returned (.bool true) ∧ Below w.heap.size w w' := by
  unfold maxLen at hm
  have HG := Lib.hid hG
  clear hG
  have hd : decide ((600 : Int) < (s.size : Int)) = true := by simp; omega
  have hd2 : (600 : Int) < (s.size : Int) := by omega
  go_enter Tryd.func3, Tryd.ntmps3
  go_wp2_with fail
  refine (awake_any _ HG.out).mono ?_
  rintro e w1 ⟨rfl, hb1⟩
  go_wp2
  go_ret
  exact ⟨rfl, hb1⟩

set_option maxRecDepth 100000 in
set_option maxHeartbeats 1000000 in
theorem tokens_short (s : ByteArray) (w : World) (hG : Glob w) (hs : s.size ≤ 600) : Calls Tryd.prog 3 #[.string s] w fun e w' => e = .returned (.bool true) ∧ Below w.heap.size w w' := by
  have HG := Lib.hid hG
  clear hG
  have HM : Hid (s.size ≤ maxLen) := Lib.hid (by unfold maxLen; omega)
  have hd : decide ((600 : Int) < (s.size : Int)) = false := by simp; omega
  have HL := Lib.hid (scanL_len s.data.toList)
  have e1 : ((scanA s.data.toList : Int) == (scanA s.data.toList : Int)) = true := by simp
  have e2 : ((scanE s.data.toList : Int) == (scanE s.data.toList : Int)) = true := by simp
  go_enter Tryd.func3, Tryd.ntmps3
  go_wp2_with fail
  refine (awake_any _ HG.out).mono ?_
  rintro e w1 ⟨rfl, hb1⟩
  have G1 := Lib.hid (HG.out.below hb1)
  have B1 := Lib.hid hb1
  clear hb1
  go_wp2_with fail
  refine (scan_any s w1 HM.out G1.out).mono ?_
  rintro e w2 ⟨A1, c1, rfl, ho1, hb2⟩
  have R1 := Lib.hid (rd_of ho1)
  have B2 := Lib.hid (B1.out.trans (hb2.mono B1.out.size))
  clear ho1 hb2 B1
  go_wp2_with fail
  refine (rscan_any s w2 HM.out).mono ?_
  rintro e w3 ⟨A2, c2, rfl, ho2, hb3⟩
  have R2 := Lib.hid (rd_of ho2)
  have R1' := Lib.hid (R1.out.below hb3)
  have B3 := Lib.hid (B2.out.trans (hb3.mono B2.out.size))
  clear ho2 hb3 B2 R1
  go_wp2_with fail
  refine (same_any A1 A2 c1 c2 _ w3 (by have := HL.out; omega) R1'.out R2.out).mono ?_
  rintro e w4 ⟨rfl, hd4⟩
  have B4 : Hid (Below w.heap.size w w4) := by obtain ⟨n, rfl⟩ := hd4; exact B3.out.trans (below_draws _ _ _)
  clear hd4
  go_wp2
  go_ret
  exact ⟨rfl, B4.out⟩

set_option maxRecDepth 100000 in
theorem comments_long (s : ByteArray) (w : World) (hG : Glob w) (hs : 600 < s.size) (hm : s.size ≤ maxLen) : Calls Tryd.prog 4 #[.string s] w fun e w' => e = .returned (.bool true) ∧ Below w.heap.size w w' := by
  unfold maxLen at hm
  have HG := Lib.hid hG
  clear hG
  have hd : decide ((600 : Int) < (s.size : Int)) = true := by simp; omega
  have hd2 : (600 : Int) < (s.size : Int) := by omega
  go_enter Tryd.func4, Tryd.ntmps4
  go_wp2_with fail
  refine (awake_any _ HG.out).mono ?_
  rintro e w1 ⟨rfl, hb1⟩
  go_wp2
  go_ret
  exact ⟨rfl, hb1⟩

set_option maxRecDepth 100000 in
set_option maxHeartbeats 1000000 in
theorem comments_short (s : ByteArray) (w : World) (hG : Glob w) (hs : s.size ≤ 600) : Calls Tryd.prog 4 #[.string s] w fun e w' => e = .returned (.bool true) ∧ Below w.heap.size w w' := by
  have HG := Lib.hid hG
  clear hG
  have HM : Hid (s.size ≤ maxLen) := Lib.hid (by unfold maxLen; omega)
  have hd : decide ((600 : Int) < (s.size : Int)) = false := by simp; omega
  have HL := Lib.hid (comL_len s.data.toList)
  go_enter Tryd.func4, Tryd.ntmps4
  go_wp2_with fail
  refine (awake_any _ HG.out).mono ?_
  rintro e w1 ⟨rfl, hb1⟩
  have G1 := Lib.hid (HG.out.below hb1)
  have B1 := Lib.hid hb1
  clear hb1
  go_wp2_with fail
  refine (comments_any s w1 HM.out G1.out).mono ?_
  rintro e w2 ⟨A1, c1, rfl, ho1, hb2⟩
  have R1 := Lib.hid (rd_of ho1)
  have B2 := Lib.hid (B1.out.trans (hb2.mono B1.out.size))
  clear ho1 hb2 B1
  go_wp2_with fail
  refine (rcomments_any s w2 HM.out).mono ?_
  rintro e w3 ⟨A2, c2, rfl, ho2, hb3⟩
  have R2 := Lib.hid (rd_of ho2)
  have R1' := Lib.hid (R1.out.below hb3)
  have B3 := Lib.hid (B2.out.trans (hb3.mono B2.out.size))
  clear ho2 hb3 B2 R1
  go_wp2_with fail
  refine (same_any A1 A2 c1 c2 _ w3 (by have := HL.out; omega) R1'.out R2.out).mono ?_
  rintro e w4 ⟨rfl, hd4⟩
  have B4 : Hid (Below w.heap.size w w4) := by obtain ⟨n, rfl⟩ := hd4; exact B3.out.trans (below_draws _ _ _)
  clear hd4
  go_wp2
  go_ret
  exact ⟨rfl, B4.out⟩
end Go.Proofs.YtaalgkcbknlccaaDoor
