/-
  The walks of lines.Count and of the specification's Count.
-/
import Derived.Test.YtlnobjdlcnpjeaaW2
import Derived.Test.YtlnobjdlcnpjeaaW3
namespace Go.Proofs.Ytlnobjdlcnpjeaa
open Go.RowKit M

theorem Row.alloc {w : World} {ao : Option Addr} {n : Nat} {zs : List Int} (h : Row w ao n zs) (o : Obj) : Row (w.alloc o) ao n zs :=
  h.below ((Below.refl _ _).alloc (Nat.le_refl _) o)

set_option maxRecDepth 100000 in
theorem count_any (ao : Option Addr) (n cap : Nat) (zs : List Int) (size : Int) (v : Bool) (w : World) (h : Row w ao n zs) (hv : Tells v zs size) :
    Calls Try.prog 15 #[.agg #[.slice ao n cap, .int .i64 size]] w fun e w' => e = .returned (.int .i64 (cnt v zs)) ∧ Below w.heap.size w w' := by
  have HZ := Lib.hid h.1
  have HH := Lib.hid h
  have HV := Lib.hid hv
  clear h hv
  cases v
  · go_enter Try.func15, Try.ntmps15
    go_wp2_with (go_at_call 14; refine (valid_any _ _ _ _ _ _ _ (HH.out.alloc _) HV.out).mono ?_; rintro e w' ⟨rfl, hb1⟩; obtain ⟨hc, hf⟩ := bcell hb1)
    go_ret
    exact ⟨rfl, ((Below.refl _ _).alloc (Nat.le_refl _) _).trans (hb1.mono (by simp))⟩
  · go_enter Try.func15, Try.ntmps15
    go_wp2_with (go_at_call 14; refine (valid_any _ _ _ _ _ _ _ (HH.out.alloc _) HV.out).mono ?_; rintro e w' ⟨rfl, hb1⟩; obtain ⟨hc, hf⟩ := bcell hb1)
    go_ret
    exact ⟨ret_int (by rw [← HZ.out]; rfl), ((Below.refl _ _).alloc (Nat.le_refl _) _).trans (hb1.mono (by simp))⟩

set_option maxRecDepth 100000 in
theorem rcount_any (ao : Option Addr) (n cap : Nat) (zs : List Int) (size : Int) (v : Bool) (w : World) (h : Row w ao n zs) (hv : Tells v zs size) :
    Calls Try.prog 18 #[.agg #[.slice ao n cap, .int .i64 size]] w fun e w' => e = .returned (.int .i64 (cnt v zs)) ∧ Below w.heap.size w w' := by
  have HZ := Lib.hid h.1
  have HH := Lib.hid h
  have HV := Lib.hid hv
  clear h hv
  cases v
  · go_enter Try.func18, Try.ntmps18
    go_wp2_with (go_at_call 17; refine (rvalid_any _ _ _ _ _ _ _ (HH.out.alloc _) HV.out).mono ?_; rintro e w' ⟨rfl, hb1⟩; obtain ⟨hc, hf⟩ := bcell hb1)
    go_ret
    exact ⟨rfl, ((Below.refl _ _).alloc (Nat.le_refl _) _).trans (hb1.mono (by simp))⟩
  · go_enter Try.func18, Try.ntmps18
    go_wp2_with (go_at_call 17; refine (rvalid_any _ _ _ _ _ _ _ (HH.out.alloc _) HV.out).mono ?_; rintro e w' ⟨rfl, hb1⟩; obtain ⟨hc, hf⟩ := bcell hb1)
    go_ret
    exact ⟨ret_int (by rw [← HZ.out]; rfl), ((Below.refl _ _).alloc (Nat.le_refl _) _).trans (hb1.mono (by simp))⟩
end Go.Proofs.Ytlnobjdlcnpjeaa
