/-
  The walk of the specification's Offset.
-/
import Derived.Test.YtlnobjdlcnpjeaaW9
namespace Go.Proofs.Ytlnobjdlcnpjeaa
open Go.RowKit M

set_option maxRecDepth 100000 in
set_option maxHeartbeats 800000 in
theorem roff_err (ao : Option Addr) (n cap : Nat) (size l c F T E : Int) (w : World) (HS : Spans 24 ao n cap size l F T E w) (hne : E ≠ 0) :
    Calls Try.prog 22 #[.agg #[.slice ao n cap, .int .i64 size], .int .i64 l, .int .i64 c] w fun e w' => e = .returned (.tuple #[.int .i64 0, .int .i64 E]) ∧ Below w.heap.size w w' := by
  have hd : (E != 0) = true := by simpa using hne
  have HS := Lib.hid HS
  clear hne
  go_enter Try.func22, Try.ntmps22
  go_wp2_with (go_at_call 24; refine (HS.out.call _).mono ?_; rintro e w' ⟨rfl, hb1⟩; obtain ⟨hc, hf⟩ := bcell hb1)
  go_ret2
  exact ⟨rfl, below_box hb1⟩

set_option maxRecDepth 100000 in
set_option maxHeartbeats 800000 in
theorem roff_inner_in (ao : Option Addr) (n cap : Nat) (size l c F T : Int) (w : World) (HS : Spans 24 ao n cap size l F T 0 w) (hF : 0 ≤ F) (hFT : F ≤ T) (hT : T ≤ 1099511627776) (hl : l ≠ (n : Int)) (hc1 : 1 ≤ c) (hc2 : c ≤ T - F) :
    Calls Try.prog 22 #[.agg #[.slice ao n cap, .int .i64 size], .int .i64 l, .int .i64 c] w fun e w' => e = .returned (.tuple #[.int .i64 (F + c - 1), .int .i64 0]) ∧ Below w.heap.size w w' := by
  have hd : (l == (n : Int)) = false := by simpa using hl
  have hd1 : decide (c < 1) = false := by simpa using hc1
  have hd2 : decide (T - F < c) = false := by simpa using hc2
  have HS := Lib.hid HS
  clear hl
  go_enter Try.func22, Try.ntmps22
  go_wp2_with (go_at_call 24; refine (HS.out.call _).mono ?_; rintro e w' ⟨rfl, hb1⟩; obtain ⟨hc, hf⟩ := bcell hb1)
  go_ret2
  exact ⟨rfl, below_box hb1⟩

set_option maxRecDepth 100000 in
set_option maxHeartbeats 800000 in
theorem roff_inner_low (ao : Option Addr) (n cap : Nat) (size l c F T : Int) (w : World) (HS : Spans 24 ao n cap size l F T 0 w) (_hF : 0 ≤ F) (_hFT : F ≤ T) (_hT : T ≤ 1099511627776) (hl : l ≠ (n : Int)) (hc1 : c < 1) :
    Calls Try.prog 22 #[.agg #[.slice ao n cap, .int .i64 size], .int .i64 l, .int .i64 c] w fun e w' => e = .returned (.tuple #[.int .i64 0, .int .i64 2]) ∧ Below w.heap.size w w' := by
  have hd : (l == (n : Int)) = false := by simpa using hl
  have hd1 : decide (c < 1) = true := by simpa using hc1
  have HS := Lib.hid HS
  clear hl
  go_enter Try.func22, Try.ntmps22
  go_wp2_with (go_at_call 24; refine (HS.out.call _).mono ?_; rintro e w' ⟨rfl, hb1⟩; obtain ⟨hc, hf⟩ := bcell hb1)
  go_ret2
  exact ⟨rfl, below_box hb1⟩

set_option maxRecDepth 100000 in
set_option maxHeartbeats 800000 in
theorem roff_inner_high (ao : Option Addr) (n cap : Nat) (size l c F T : Int) (w : World) (HS : Spans 24 ao n cap size l F T 0 w) (hF : 0 ≤ F) (hFT : F ≤ T) (hT : T ≤ 1099511627776) (hl : l ≠ (n : Int)) (hc1 : 1 ≤ c) (hc2 : T - F < c) :
    Calls Try.prog 22 #[.agg #[.slice ao n cap, .int .i64 size], .int .i64 l, .int .i64 c] w fun e w' => e = .returned (.tuple #[.int .i64 0, .int .i64 2]) ∧ Below w.heap.size w w' := by
  have hd : (l == (n : Int)) = false := by simpa using hl
  have hd1 : decide (c < 1) = false := by simpa using hc1
  have hd2 : decide (T - F < c) = true := by simpa using hc2
  have HS := Lib.hid HS
  clear hl
  go_enter Try.func22, Try.ntmps22
  go_wp2_with (go_at_call 24; refine (HS.out.call _).mono ?_; rintro e w' ⟨rfl, hb1⟩; obtain ⟨hc, hf⟩ := bcell hb1)
  go_ret2
  exact ⟨rfl, below_box hb1⟩

set_option maxRecDepth 100000 in
set_option maxHeartbeats 800000 in
theorem roff_last_in (ao : Option Addr) (n cap : Nat) (size l c F T : Int) (w : World) (HS : Spans 24 ao n cap size l F T 0 w) (hF : 0 ≤ F) (hFT : F ≤ T) (hT : T ≤ 1099511627776) (hl : l = (n : Int)) (hc1 : 1 ≤ c) (hc2 : c ≤ T + 1 - F) :
    Calls Try.prog 22 #[.agg #[.slice ao n cap, .int .i64 size], .int .i64 l, .int .i64 c] w fun e w' => e = .returned (.tuple #[.int .i64 (F + c - 1), .int .i64 0]) ∧ Below w.heap.size w w' := by
  have hd : (l == (n : Int)) = true := by simpa using hl
  have hd1 : decide (c < 1) = false := by simpa using hc1
  have hd2 : decide (T + 1 - F < c) = false := by simpa using hc2
  have HS := Lib.hid HS
  clear hl
  go_enter Try.func22, Try.ntmps22
  go_wp2_with (go_at_call 24; refine (HS.out.call _).mono ?_; rintro e w' ⟨rfl, hb1⟩; obtain ⟨hc, hf⟩ := bcell hb1)
  go_ret2
  exact ⟨rfl, below_box hb1⟩

set_option maxRecDepth 100000 in
set_option maxHeartbeats 800000 in
theorem roff_last_low (ao : Option Addr) (n cap : Nat) (size l c F T : Int) (w : World) (HS : Spans 24 ao n cap size l F T 0 w) (hF : 0 ≤ F) (hFT : F ≤ T) (hT : T ≤ 1099511627776) (hl : l = (n : Int)) (hc1 : c < 1) :
    Calls Try.prog 22 #[.agg #[.slice ao n cap, .int .i64 size], .int .i64 l, .int .i64 c] w fun e w' => e = .returned (.tuple #[.int .i64 0, .int .i64 2]) ∧ Below w.heap.size w w' := by
  have hd : (l == (n : Int)) = true := by simpa using hl
  have hd1 : decide (c < 1) = true := by simpa using hc1
  have HS := Lib.hid HS
  clear hl
  go_enter Try.func22, Try.ntmps22
  go_wp2_with (go_at_call 24; refine (HS.out.call _).mono ?_; rintro e w' ⟨rfl, hb1⟩; obtain ⟨hc, hf⟩ := bcell hb1)
  go_ret2
  exact ⟨rfl, below_box hb1⟩

set_option maxRecDepth 100000 in
set_option maxHeartbeats 800000 in
theorem roff_last_high (ao : Option Addr) (n cap : Nat) (size l c F T : Int) (w : World) (HS : Spans 24 ao n cap size l F T 0 w) (hF : 0 ≤ F) (hFT : F ≤ T) (hT : T ≤ 1099511627776) (hl : l = (n : Int)) (hc1 : 1 ≤ c) (hc2 : T + 1 - F < c) :
    Calls Try.prog 22 #[.agg #[.slice ao n cap, .int .i64 size], .int .i64 l, .int .i64 c] w fun e w' => e = .returned (.tuple #[.int .i64 0, .int .i64 2]) ∧ Below w.heap.size w w' := by
  have hd : (l == (n : Int)) = true := by simpa using hl
  have hd1 : decide (c < 1) = false := by simpa using hc1
  have hd2 : decide (T + 1 - F < c) = true := by simpa using hc2
  have HS := Lib.hid HS
  clear hl
  go_enter Try.func22, Try.ntmps22
  go_wp2_with (go_at_call 24; refine (HS.out.call _).mono ?_; rintro e w' ⟨rfl, hb1⟩; obtain ⟨hc, hf⟩ := bcell hb1)
  go_ret2
  exact ⟨rfl, below_box hb1⟩

/-- The specification's Offset, at every table, line and column. -/
theorem roff_any (ao : Option Addr) (n cap : Nat) (zs : List Int) (size l c : Int) (v : Bool) (w : World) (h : Row w ao n zs) (hv : Tells v zs size) :
    Calls Try.prog 22 #[.agg #[.slice ao n cap, .int .i64 size], .int .i64 l, .int .i64 c] w fun e w' => e = .returned (.tuple #[.int .i64 (oAt v zs size l c), .int .i64 (oErr v zs size l c)]) ∧ Below w.heap.size w w' := by
  have S : Spans 24 ao n cap size l (sFrom v zs l) (sTo v zs size l) (sErr v zs l) w := fun w' hb => rspan_any ao n cap zs size l v w' (h.below hb) hv
  have hz := h.1
  by_cases hg : v = true ∧ 1 ≤ l ∧ l ≤ (zs.length : Int)
  · obtain ⟨rfl, g1, g2⟩ := hg
    have ok := hv.yes
    obtain ⟨k, rfl⟩ : ∃ k : Nat, l = (k : Int) + 1 := ⟨(l - 1).toNat, by omega⟩
    have e1 : ((k : Int) + 1).toNat = k + 1 := by omega
    have hk : k < zs.length := by omega
    have eE : sErr true zs ((k : Int) + 1) = 0 := by rw [sErr, if_pos rfl, if_pos ⟨g1, g2⟩]
    have eF : sFrom true zs ((k : Int) + 1) = at0 zs k := by rw [sFrom, if_pos ⟨rfl, g1, g2⟩, e1, Nat.add_sub_cancel]
    have b1 := ok.bd hk
    have b2 := ok.size
    rw [eE, eF] at S
    by_cases hl : (k : Int) + 1 = (zs.length : Int)
    · have eT : sTo true zs size ((k : Int) + 1) = size := by rw [sTo, if_pos ⟨rfl, g1, g2⟩, if_pos hl]
      have eC : cols zs size ((k : Int) + 1) = size + 1 - at0 zs k := by rw [cols, if_pos hl, e1, Nat.add_sub_cancel]
      rw [eT] at S
      by_cases c1 : 1 ≤ c
      · by_cases c2 : c ≤ cols zs size ((k : Int) + 1)
        · refine (roff_last_in ao n cap size _ c _ _ w S b1.1 b1.2 b2.2 (by omega) c1 (by rw [eC] at c2; omega)).mono fun e w' ⟨he, hw⟩ => ⟨?_, hw⟩
          rw [he, oAt, oErr, if_pos ⟨rfl, g1, g2, c1, c2⟩, if_pos rfl, if_pos ⟨g1, g2, c1, c2⟩, e1, Nat.add_sub_cancel]
        · refine (roff_last_high ao n cap size _ c _ _ w S b1.1 b1.2 b2.2 (by omega) c1 (by rw [eC] at c2; omega)).mono fun e w' ⟨he, hw⟩ => ⟨?_, hw⟩
          rw [he, oAt, oErr, if_neg (fun g => c2 g.2.2.2.2), if_pos rfl, if_neg (fun g => c2 g.2.2.2)]
      · refine (roff_last_low ao n cap size _ c _ _ w S b1.1 b1.2 b2.2 (by omega) (by omega)).mono fun e w' ⟨he, hw⟩ => ⟨?_, hw⟩
        rw [he, oAt, oErr, if_neg (fun g => c1 g.2.2.2.1), if_pos rfl, if_neg (fun g => c1 g.2.2.1)]
    · have eT : sTo true zs size ((k : Int) + 1) = at0 zs (k + 1) := by rw [sTo, if_pos ⟨rfl, g1, g2⟩, if_neg hl, e1]
      have eC : cols zs size ((k : Int) + 1) = at0 zs (k + 1) - at0 zs k := by rw [cols, if_neg hl, e1, Nat.add_sub_cancel]
      have b3 := ok.bd (i := k + 1) (by omega)
      have b4 := ok.le (i := k) (j := k + 1) (by omega) (by omega)
      rw [eT] at S
      by_cases c1 : 1 ≤ c
      · by_cases c2 : c ≤ cols zs size ((k : Int) + 1)
        · refine (roff_inner_in ao n cap size _ c _ _ w S b1.1 b4 (by omega) (by omega) c1 (by rw [eC] at c2; omega)).mono fun e w' ⟨he, hw⟩ => ⟨?_, hw⟩
          rw [he, oAt, oErr, if_pos ⟨rfl, g1, g2, c1, c2⟩, if_pos rfl, if_pos ⟨g1, g2, c1, c2⟩, e1, Nat.add_sub_cancel]
        · refine (roff_inner_high ao n cap size _ c _ _ w S b1.1 b4 (by omega) (by omega) c1 (by rw [eC] at c2; omega)).mono fun e w' ⟨he, hw⟩ => ⟨?_, hw⟩
          rw [he, oAt, oErr, if_neg (fun g => c2 g.2.2.2.2), if_pos rfl, if_neg (fun g => c2 g.2.2.2)]
      · refine (roff_inner_low ao n cap size _ c _ _ w S b1.1 b4 (by omega) (by omega) (by omega)).mono fun e w' ⟨he, hw⟩ => ⟨?_, hw⟩
        rw [he, oAt, oErr, if_neg (fun g => c1 g.2.2.2.1), if_pos rfl, if_neg (fun g => c1 g.2.2.1)]
  · have hne : sErr v zs l ≠ 0 := by
      unfold sErr
      by_cases hv1 : v = true
      · rw [if_pos hv1, if_neg (fun g => hg ⟨hv1, g⟩)]; decide
      · rw [if_neg hv1]; decide
    refine (roff_err ao n cap size l c _ _ _ w S hne).mono fun e w' ⟨he, hw⟩ => ⟨?_, hw⟩
    have eE : sErr v zs l = oErr v zs size l c := by
      unfold sErr oErr
      by_cases hv1 : v = true
      · rw [if_pos hv1, if_neg (fun g => hg ⟨hv1, g⟩), if_pos hv1, if_neg (fun g => hg ⟨hv1, g.1, g.2.1⟩)]
      · rw [if_neg hv1, if_neg hv1]
    rw [he, oAt, if_neg (fun g => hg ⟨g.1, g.2.1, g.2.2.1⟩), eE]

end Go.Proofs.Ytlnobjdlcnpjeaa
