/-
  The walk of the law ScanConcatenation: where a text is long, or not accepted.
-/
import Derived.Test.YtaalgkcbknlccaaDoorL3
import Derived.Test.YtaalgkcbknlccaaDoorMath5
namespace Go.Proofs.YtaalgkcbknlccaaDoor
open Go.RowKit M

set_option maxRecDepth 100000 in
theorem concat_long1 (a b : ByteArray) (w : World) (hG : Glob w) (hs : 300 < a.size) (hm : a.size ≤ maxLen) : Calls Tryd.prog 10 #[.string a, .string b] w fun e w' => e = .returned (.bool true) ∧ Below w.heap.size w w' := by
  unfold maxLen at hm
  have HG := Lib.hid hG
  clear hG
  have hd : decide ((300 : Int) < (a.size : Int)) = true := by simp; omega
  have hd2 : (300 : Int) < (a.size : Int) := by omega
  go_enter Tryd.func10, Tryd.ntmps10
  go_wp2_with fail
  refine (awake_any _ HG.out).mono ?_
  rintro e w1 ⟨rfl, hb1⟩
  go_wp2
  go_ret
  exact ⟨rfl, hb1⟩
set_option maxRecDepth 100000 in
theorem concat_long2 (a b : ByteArray) (w : World) (hG : Glob w) (ha : a.size ≤ 300) (hs : 300 < b.size) (hm : b.size ≤ maxLen) : Calls Tryd.prog 10 #[.string a, .string b] w fun e w' => e = .returned (.bool true) ∧ Below w.heap.size w w' := by
  unfold maxLen at hm
  have HG := Lib.hid hG
  clear hG
  have hd0 : decide ((300 : Int) < (a.size : Int)) = false := by simp; omega
  have hd : decide ((300 : Int) < (b.size : Int)) = true := by simp; omega
  have hd2 : (300 : Int) < (b.size : Int) := by omega
  go_enter Tryd.func10, Tryd.ntmps10
  go_wp2_with fail
  refine (awake_any _ HG.out).mono ?_
  rintro e w1 ⟨rfl, hb1⟩
  go_wp2
  go_ret
  exact ⟨rfl, hb1⟩

set_option maxRecDepth 100000 in
set_option maxHeartbeats 1000000 in
theorem concat_err1 (a b : ByteArray) (w : World) (hG : Glob w) (ha : a.size ≤ 300) (hb : b.size ≤ 300) (he : scanE (a ++ ⟨#[10]⟩ : ByteArray).data.toList ≠ 0) : Calls Tryd.prog 10 #[.string a, .string b] w fun e w' => e = .returned (.bool true) ∧ Below w.heap.size w w' := by
  have HG := Lib.hid hG
  clear hG
  have hd0 : decide ((300 : Int) < (a.size : Int)) = false := by simp; omega
  have hd : decide ((300 : Int) < (b.size : Int)) = false := by simp; omega
  have HM1 : Hid ((a ++ ⟨#[10]⟩ : ByteArray).size ≤ maxLen) := Lib.hid (by rw [ByteArray.size_append]; show a.size + 1 ≤ _; unfold maxLen; omega)
  have HM2 : Hid (b.size ≤ maxLen) := Lib.hid (by unfold maxLen; omega)
  have HE : ((scanE (a ++ ⟨#[10]⟩ : ByteArray).data.toList : Int) != 0) = true := by simpa using he
  have HE0 := Lib.hid HE
  clear HE he
  go_enter Tryd.func10, Tryd.ntmps10
  go_wp2_with fail
  refine (awake_any _ HG.out).mono ?_
  rintro e w1 ⟨rfl, hb1⟩
  have G1 := Lib.hid (HG.out.below hb1)
  have B1 := Lib.hid hb1
  clear hb1
  go_wp2_with fail
  generalize (a ++ ⟨#[10]⟩ : ByteArray) = aa at *
  refine (scan_any aa w1 HM1.out G1.out).mono ?_
  rintro e w2 ⟨A1, c1, rfl, ho1, hb2⟩
  have G2 := Lib.hid (G1.out.below hb2)
  have B2 := Lib.hid (B1.out.trans (hb2.mono B1.out.size))
  clear ho1 hb2 B1 G1
  go_wp2_with fail
  refine (scan_any b w2 HM2.out G2.out).mono ?_
  rintro e w3 ⟨A2, c2, rfl, ho2, hb3⟩
  have B3 := Lib.hid (B2.out.trans (hb3.mono B2.out.size))
  clear ho2 hb3 B2 G2
  have HE := HE0.out
  go_wp2
  go_ret
  exact ⟨rfl, B3.out⟩
set_option maxRecDepth 100000 in
set_option maxHeartbeats 1000000 in
theorem concat_err2 (a b : ByteArray) (w : World) (hG : Glob w) (ha : a.size ≤ 300) (hb : b.size ≤ 300) (h1 : scanE (a ++ ⟨#[10]⟩ : ByteArray).data.toList = 0) (he : scanE b.data.toList ≠ 0) : Calls Tryd.prog 10 #[.string a, .string b] w fun e w' => e = .returned (.bool true) ∧ Below w.heap.size w w' := by
  have HG := Lib.hid hG
  clear hG
  have hd0 : decide ((300 : Int) < (a.size : Int)) = false := by simp; omega
  have hd : decide ((300 : Int) < (b.size : Int)) = false := by simp; omega
  have HM1 : Hid ((a ++ ⟨#[10]⟩ : ByteArray).size ≤ maxLen) := Lib.hid (by rw [ByteArray.size_append]; show a.size + 1 ≤ _; unfold maxLen; omega)
  have HM2 : Hid (b.size ≤ maxLen) := Lib.hid (by unfold maxLen; omega)
  have H1 := Lib.hid h1
  clear h1
  have HE : ((scanE b.data.toList : Int) != 0) = true := by simpa using he
  have HE0 := Lib.hid HE
  clear HE he
  go_enter Tryd.func10, Tryd.ntmps10
  go_wp2_with fail
  refine (awake_any _ HG.out).mono ?_
  rintro e w1 ⟨rfl, hb1⟩
  have G1 := Lib.hid (HG.out.below hb1)
  have B1 := Lib.hid hb1
  clear hb1
  go_wp2_with fail
  generalize (a ++ ⟨#[10]⟩ : ByteArray) = aa at *
  refine (scan_at aa w1 HM1.out G1.out H1.out rfl).mono ?_
  rintro e w2 ⟨A1, c1, rfl, ho1, hb2⟩
  have G2 := Lib.hid (G1.out.below hb2)
  have B2 := Lib.hid (B1.out.trans (hb2.mono B1.out.size))
  clear ho1 hb2 B1 G1
  go_wp2_with fail
  refine (scan_any b w2 HM2.out G2.out).mono ?_
  rintro e w3 ⟨A2, c2, rfl, ho2, hb3⟩
  have B3 := Lib.hid (B2.out.trans (hb3.mono B2.out.size))
  clear ho2 hb3 B2 G2
  have HE := HE0.out
  go_wp2
  go_ret
  exact ⟨rfl, B3.out⟩
end Go.Proofs.YtaalgkcbknlccaaDoor
