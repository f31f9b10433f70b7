/-
  The walks of Scan and Comments.
-/
import Derived.Test.YtaalgkcbknlccaaDoorW15
import Derived.Test.YtaalgkcbknlccaaDoorMath3
namespace Go.Proofs.YtaalgkcbknlccaaDoor
open Go.RowKit M

theorem read_any (s : ByteArray) (w : World) (hm : s.size ≤ maxLen) (hG : Glob w) :
    Calls Tryd.prog 22 #[.string s] w (Reads w (scanR s.data.toList).1 (scanR s.data.toList).2.1 (scanR s.data.toList).2.2) := by
  unfold scanR
  by_cases h : 20000 < s.size
  · rw [if_pos (by rw [← size_list]; exact h)]
    exact read_long s w h hm
  · rw [if_neg (by rw [← size_list]; exact h)]
    exact read_short s w (by omega) hG

set_option maxRecDepth 100000 in
theorem scan_err (s : ByteArray) (w : World) (hm : s.size ≤ maxLen) (hG : Glob w) (he : scanE s.data.toList ≠ 0) :
    Calls Tryd.prog 12 #[.string s] w (Reads w (scanL s.data.toList) (scanA s.data.toList) (scanE s.data.toList)) := by
  have H := Lib.hid (read_any s w hm hG)
  have HE : (((scanR s.data.toList).2.2 : Int) != 0) = true := by unfold scanE at he; simp; omega
  have HL : Hid (scanL s.data.toList = []) := by unfold scanL scanE at *; exact if_neg he
  clear hG he
  go_enter Tryd.func12, Tryd.ntmps12
  go_wp2_with fail
  refine H.out.mono ?_
  rintro e w2 ⟨A, cap, rfl, ho, hb⟩
  have HB := Lib.hid hb
  clear ho hb
  go_wp2
  go_ret3
  refine ⟨none, 0, ?_, ?_, HB.out⟩
  · rw [HL.out]; rfl
  · rw [HL.out]; exact World.ownsRow_nil _ _ _ _

set_option maxRecDepth 100000 in
theorem scan_ok (s : ByteArray) (w : World) (hm : s.size ≤ maxLen) (hG : Glob w) (he : scanE s.data.toList = 0) :
    Calls Tryd.prog 12 #[.string s] w (Reads w (scanL s.data.toList) (scanA s.data.toList) (scanE s.data.toList)) := by
  have H := Lib.hid (read_any s w hm hG)
  have HE : (((scanR s.data.toList).2.2 : Int) != 0) = false := by unfold scanE at he; simp; omega
  have HL : Hid (scanL s.data.toList = (scanR s.data.toList).1.filter (fun t => !(t.k == 5))) := by unfold scanL scanE at *; exact if_pos he
  have HA := Lib.hid (scanA_zero _ he)
  have HZ := Lib.hid he
  clear hG he
  go_enter Tryd.func12, Tryd.ntmps12
  go_wp2_with fail
  refine H.out.mono ?_
  rintro e w2 ⟨A, cap, rfl, ho, hb⟩
  have HO := Lib.hid ho
  have HB := Lib.hid hb
  clear ho hb
  go_wp2_with fail
  refine (delete_any 24 _ (.inl rfl) pred24 w.heap.size A cap _ _ (scanR_len _) HO.out HB.out.size).mono ?_
  rintro e w3 ⟨A2, cap2, rfl, ho2, hb2⟩
  have HO2 := Lib.hid ho2
  have HB2 := Lib.hid hb2
  clear ho2 hb2
  go_wp2
  go_ret3
  refine ⟨A2, cap2, ?_, ?_, HB.out.trans HB2.out⟩
  · rw [HL.out, HA.out, HZ.out]; rfl
  · rw [HL.out]; exact HO2.out
theorem scan_any (s : ByteArray) (w : World) (hm : s.size ≤ maxLen) (hG : Glob w) :
    Calls Tryd.prog 12 #[.string s] w (Reads w (scanL s.data.toList) (scanA s.data.toList) (scanE s.data.toList)) := by
  by_cases he : scanE s.data.toList = 0
  · exact scan_ok s w hm hG he
  · exact scan_err s w hm hG he

set_option maxRecDepth 100000 in
theorem comments_any (s : ByteArray) (w : World) (hm : s.size ≤ maxLen) (hG : Glob w) :
    Calls Tryd.prog 15 #[.string s] w (Kept w w.heap.size (comL s.data.toList)) := by
  have H := Lib.hid (read_any s w hm hG)
  clear hG
  go_enter Tryd.func15, Tryd.ntmps15
  go_wp2_with fail
  refine H.out.mono ?_
  rintro e w2 ⟨A, cap, rfl, ho, hb⟩
  have HO := Lib.hid ho
  have HB := Lib.hid hb
  clear ho hb
  go_wp2_with fail
  refine (delete_any 26 _ (.inr rfl) pred26 w.heap.size A cap _ _ (scanR_len _) HO.out HB.out.size).mono ?_
  rintro e w3 ⟨A2, cap2, rfl, ho2, hb2⟩
  have HO2 := Lib.hid ho2
  have HB2 := Lib.hid hb2
  clear ho2 hb2
  have e2 : (scanR s.data.toList).1.filter (fun t => !!(t.k == 5)) = comL s.data.toList := by unfold comL; simp
  rw [e2] at HO2
  rw [e2]
  have HX := Lib.hid e2
  clear e2
  go_wp2
  go_ret
  exact ⟨A2, cap2, rfl, HO2.out, HB.out.trans HB2.out⟩
end Go.Proofs.YtaalgkcbknlccaaDoor
