/-
  The walk of lines.Span.
-/
import Derived.Test.YtlnobjdlcnpjeaaW6
namespace Go.Proofs.Ytlnobjdlcnpjeaa
open Go.RowKit M

set_option maxRecDepth 100000 in
set_option maxHeartbeats 800000 in
theorem span_bad (ao : Option Addr) (n cap : Nat) (zs : List Int) (size l : Int) (w : World) (h : Row w ao n zs) (hv : Tells false zs size) :
    Calls Try.prog 23 #[.agg #[.slice ao n cap, .int .i64 size], .int .i64 l] w fun e w' => e = .returned (.tuple #[.int .i64 0, .int .i64 0, .int .i64 1]) ∧ Below w.heap.size w w' := by
  have HH := Lib.hid h
  have HV := Lib.hid hv
  clear h hv
  go_enter Try.func23, Try.ntmps23
  go_wp2_with (go_at_call 14; refine (valid_any _ _ _ _ _ _ _ (HH.out.alloc _) HV.out).mono ?_; rintro e w' ⟨rfl, hb1⟩; obtain ⟨hc, hf⟩ := bcell hb1)
  go_ret3
  exact ⟨rfl, below_box hb1⟩

set_option maxRecDepth 100000 in
set_option maxHeartbeats 800000 in
theorem span_out (ao : Option Addr) (n cap : Nat) (zs : List Int) (size l : Int) (w : World) (h : Row w ao n zs) (hv : Tells true zs size) (hl : l < 1 ∨ n < l) :
    Calls Try.prog 23 #[.agg #[.slice ao n cap, .int .i64 size], .int .i64 l] w fun e w' => e = .returned (.tuple #[.int .i64 0, .int .i64 0, .int .i64 2]) ∧ Below w.heap.size w w' := by
  have HH := Lib.hid h
  have HV := Lib.hid hv
  clear h hv
  by_cases ha0 : l < 1
  · have hd : decide (l < 1) = true := by simpa using ha0
    clear hl
    go_enter Try.func23, Try.ntmps23
    go_wp2_with (go_at_call 14; refine (valid_any _ _ _ _ _ _ _ (HH.out.alloc _) HV.out).mono ?_; rintro e w' ⟨rfl, hb1⟩; obtain ⟨hc, hf⟩ := bcell hb1)
    go_ret3
    exact ⟨rfl, below_box hb1⟩
  · have ha1 : (n : Int) < l := by omega
    have hd : decide (l < 1) = false := by simpa using ha0
    have hd1 : decide ((n : Int) < l) = true := by simpa using ha1
    clear hl
    go_enter Try.func23, Try.ntmps23
    go_wp2_with (go_at_call 14; refine (valid_any _ _ _ _ _ _ _ (HH.out.alloc _) HV.out).mono ?_; rintro e w' ⟨rfl, hb1⟩; obtain ⟨hc, hf⟩ := bcell hb1)
    go_ret3
    exact ⟨rfl, below_box hb1⟩

set_option maxRecDepth 100000 in
set_option maxHeartbeats 800000 in
theorem span_in (b off n cap k : Nat) (zs : List Int) (size : Int) (w : World) (h : Row w (some ⟨b, off, none⟩) n zs) (hv : Tells true zs size)
    (hk : k + 1 < n) (hlt : b < w.heap.size) (hcells : ∀ i, i < n → w.cell? ⟨b, off + i, none⟩ = some (.int .i64 (at0 zs i))) :
    Calls Try.prog 23 #[.agg #[.slice (some ⟨b, off, none⟩) n cap, .int .i64 size], .int .i64 ((k : Int) + 1)] w fun e w' => e = .returned (.tuple #[.int .i64 (at0 zs k), .int .i64 (at0 zs (k + 1)), .int .i64 0]) ∧ Below w.heap.size w w' := by
  have hb := h.2.1
  have HH := Lib.hid h
  have HV := Lib.hid hv
  have hc0 := hcells k (by omega)
  have hc1 := hcells (k + 1) (by omega)
  clear h hv hcells
  have hd : decide ((k : Int) + 1 < 1) = false := by simp; omega
  have hd1 : decide ((n : Int) < (k : Int) + 1) = false := by simp; omega
  have hi0 : (0 : Int) ≤ (k : Int) := by omega
  have hi1 : (k : Int) < (n : Int) := by omega
  have hi2 : (k : Int) + 1 < (n : Int) := by omega
  have hi3 : (0 : Int) ≤ (k : Int) + 1 := by omega
  have hne : ((k : Int) + 1 == (n : Int)) = false := by simp; omega
  go_enter Try.func23, Try.ntmps23
  go_wp2_with (go_at_call 14; refine (valid_any _ _ _ _ _ _ _ (HH.out.alloc _) HV.out).mono ?_; rintro e w' ⟨rfl, hb1⟩; obtain ⟨hc, hf⟩ := bcell hb1)
  have hw0 : IntKind.i64.wrap (k : Int) = k := IntWalk.i64_in _ (by omega)
  have hw1 : ((k : Int) + 1).toNat = k + 1 := by omega
  go_quiet (fail)
  go_wp2
  go_ret3
  exact ⟨rfl, (below_box hb1).trans (below_draws _ _ _)⟩

set_option maxRecDepth 100000 in
set_option maxHeartbeats 800000 in
theorem span_last (b off n cap k : Nat) (zs : List Int) (size : Int) (w : World) (h : Row w (some ⟨b, off, none⟩) n zs) (hv : Tells true zs size)
    (hk : k + 1 = n) (hlt : b < w.heap.size) (hcells : ∀ i, i < n → w.cell? ⟨b, off + i, none⟩ = some (.int .i64 (at0 zs i))) :
    Calls Try.prog 23 #[.agg #[.slice (some ⟨b, off, none⟩) n cap, .int .i64 size], .int .i64 ((k : Int) + 1)] w fun e w' => e = .returned (.tuple #[.int .i64 (at0 zs k), .int .i64 size, .int .i64 0]) ∧ Below w.heap.size w w' := by
  have hb := h.2.1
  have HH := Lib.hid h
  have HV := Lib.hid hv
  have hc0 := hcells k (by omega)
  clear h hv hcells
  have hd : decide ((k : Int) + 1 < 1) = false := by simp; omega
  have hd1 : decide ((n : Int) < (k : Int) + 1) = false := by simp; omega
  have hi0 : (0 : Int) ≤ (k : Int) := by omega
  have hi1 : (k : Int) < (n : Int) := by omega
  have hne : ((k : Int) + 1 == (n : Int)) = true := by simp; omega
  have HK := Lib.hid hk
  clear hk
  go_enter Try.func23, Try.ntmps23
  go_wp2_with (go_at_call 14; refine (valid_any _ _ _ _ _ _ _ (HH.out.alloc _) HV.out).mono ?_; rintro e w' ⟨rfl, hb1⟩; obtain ⟨hc, hf⟩ := bcell hb1)
  have hw0 : IntKind.i64.wrap (k : Int) = k := IntWalk.i64_in _ (by omega)
  go_quiet (fail)
  go_wp2
  go_ret3
  exact ⟨rfl, (below_box hb1).trans (below_draws _ _ _)⟩

/-- lines.Span, at every table and line. -/
theorem span_any (ao : Option Addr) (n cap : Nat) (zs : List Int) (size l : Int) (v : Bool) (w : World) (h : Row w ao n zs) (hv : Tells v zs size) :
    Calls Try.prog 23 #[.agg #[.slice ao n cap, .int .i64 size], .int .i64 l] w fun e w' => e = .returned (.tuple #[.int .i64 (sFrom v zs l), .int .i64 (sTo v zs size l), .int .i64 (sErr v zs l)]) ∧ Below w.heap.size w w' := by
  cases v with
  | false => exact span_bad ao n cap zs size l w h hv
  | true =>
    have hz := h.1
    have hr := h.2.2
    by_cases hl : 1 ≤ l ∧ l ≤ n
    · have ok := hv.yes
      obtain ⟨k, rfl⟩ : ∃ k : Nat, l = (k : Int) + 1 := ⟨(l - 1).toNat, by omega⟩
      have e1 : ((k : Int) + 1).toNat = k + 1 := by omega
      rcases hr with hr | ⟨b, off, rfl, hlt, hc⟩
      · have := ok.1; omega
      · by_cases hkn : k + 1 = n
        · refine (span_last b off n cap k zs size w h hv hkn hlt hc).mono fun e w' ⟨he, hw⟩ => ⟨?_, hw⟩
          rw [he]
          have c1 : (1 : Int) ≤ (k : Int) + 1 := by omega
          have c2 : (k : Int) + 1 = (zs.length : Int) := by omega
          have c3 : (k : Int) + 1 ≤ (zs.length : Int) := by omega
          rw [sFrom, sTo, sErr, if_pos ⟨rfl, c1, c3⟩, if_pos ⟨rfl, c1, c3⟩, if_pos c2, if_pos rfl, if_pos ⟨c1, c3⟩, e1, Nat.add_sub_cancel]
        · refine (span_in b off n cap k zs size w h hv (by omega) hlt hc).mono fun e w' ⟨he, hw⟩ => ⟨?_, hw⟩
          rw [he]
          have c1 : (1 : Int) ≤ (k : Int) + 1 := by omega
          have c2 : ¬ (k : Int) + 1 = (zs.length : Int) := by omega
          have c3 : (k : Int) + 1 ≤ (zs.length : Int) := by omega
          rw [sFrom, sTo, sErr, if_pos ⟨rfl, c1, c3⟩, if_pos ⟨rfl, c1, c3⟩, if_neg c2, if_pos rfl, if_pos ⟨c1, c3⟩, e1, Nat.add_sub_cancel]
    · refine (span_out ao n cap zs size l w h hv (by omega)).mono fun e w' ⟨he, hw⟩ => ⟨?_, hw⟩
      rw [he]
      have c : ¬ ((1 : Int) ≤ l ∧ l ≤ (zs.length : Int)) := by omega
      rw [sFrom, sTo, sErr, if_neg (fun g => c g.2), if_neg (fun g => c g.2), if_pos rfl, if_neg c]

end Go.Proofs.Ytlnobjdlcnpjeaa
