/-
  The walks of the specification's Comparable and Binary.
-/
import Derived.Test.YtijhdlmnoinfiaaGreatDoorEB
set_option linter.all false
namespace Go.Proofs.YtijhdlmnoinfiaaGreatDoor
open Go.RowKit Ty
theorem bne_dec (a b : Int) : (a != b) = !decide (a = b) := by
  by_cases h : a = b <;> simp [h]
theorem b3 (w : World) (o1 o2 o3 : Obj) : Below w.heap.size w (((w.alloc o1).alloc o2).alloc o3) := ((b1 w o1).alloc (by simp) _).alloc (by simp; omega) _

set_option maxRecDepth 100000 in
set_option maxHeartbeats 2000000 in
theorem rcompare_any (k : Int) (s : ByteArray) (k' : Int) (s' : ByteArray) (w : World) (hm : s.size ≤ maxLen) (hm' : s'.size ≤ maxLen) : Calls Tryz.prog 26 #[tyv k s, tyv k' s'] w fun e w' => e = .returned (.bool (cmB k s k' s')) ∧ Below w.heap.size w w' := by
  have HV : Hid (∀ kk W, Calls Tryz.prog 21 #[tyv kk s] W fun e w' => e = .returned (.bool (valB kk s)) ∧ Below W.heap.size W w') := Lib.hid fun kk W => rvalue_any kk s W hm
  have HR : Hid (∀ kk W, Calls Tryz.prog 42 #[tyv kk s] W fun e w' => e = .returned (.bool (rB kk s)) ∧ Below W.heap.size W w') := Lib.hid fun kk W => rref_any kk s W hm
  have HR2 : Hid (∀ kk W, Calls Tryz.prog 42 #[tyv kk s'] W fun e w' => e = .returned (.bool (rB kk s')) ∧ Below W.heap.size W w') := Lib.hid fun kk W => rref_any kk s' W hm'
  go_enter Tryz.func26, Tryz.ntmps26
  go_wp2_with (first
    | (go_at_call 42; (with_reducible refine (HR.out _ _).mono ?_); rintro e w1 ⟨rfl, hb⟩; have HB := Lib.hid (b1t (b1t (b1t hb))); obtain ⟨hc, hf⟩ := bcell hb; have hz := hb.size; clear hb)
    | (go_at_call 42; (with_reducible refine (HR2.out _ _).mono ?_); rintro e w2 ⟨rfl, hb2⟩; have HB2 := Lib.hid (HB.out.trans (hb2.mono HB.out.size)); clear hb2)
    | (go_at_call 21; (with_reducible refine (HV.out _ _).mono ?_); rintro e w1 ⟨rfl, hb⟩; have HB := Lib.hid (b1t (b1t (b1t hb))); obtain ⟨hc, hf⟩ := bcell hb; have hz := hb.size; clear hb))
  all_goals go_ret
  all_goals first
    | refine ⟨ret_bool ?_, HB2.out⟩
    | refine ⟨ret_bool ?_, HB.out⟩
    | refine ⟨ret_bool ?_, b3 _ _ _ _⟩
  all_goals unfold cmB sm isK emp
  all_goals first
    | (simp_all; done)
    | (simp_all; intros; omega)
    | (subst k; simp_all; done)
    | (subst k'; simp_all; done)
    | (subst k; simp_all [bne_dec]; done)

end Go.Proofs.YtijhdlmnoinfiaaGreatDoor
