/-
  The walk of the specification's Position.
-/
import Derived.Test.YtlnobjdlcnpjeaaW6
namespace Go.Proofs.Ytlnobjdlcnpjeaa
open Go.RowKit M

set_option maxRecDepth 100000 in
set_option maxHeartbeats 800000 in
theorem rpos_bad (ao : Option Addr) (n cap : Nat) (zs : List Int) (size a : Int) (w : World) (h : Row w ao n zs) (hv : Tells false zs size) :
    Calls Try.prog 20 #[.agg #[.slice ao n cap, .int .i64 size], .int .i64 a] w fun e w' => e = .returned (.tuple #[.int .i64 0, .int .i64 0, .int .i64 1]) ∧ Below w.heap.size w w' := by
  have HH := Lib.hid h
  have HV := Lib.hid hv
  clear h hv
  go_enter Try.func20, Try.ntmps20
  go_wp2_with (go_at_call 17; refine (rvalid_any _ _ _ _ _ _ _ (HH.out.alloc _) HV.out).mono ?_; rintro e w' ⟨rfl, hb1⟩; obtain ⟨hc, hf⟩ := bcell hb1)
  go_ret3
  exact ⟨rfl, below_box hb1⟩

set_option maxRecDepth 100000 in
set_option maxHeartbeats 800000 in
theorem rpos_out (ao : Option Addr) (n cap : Nat) (zs : List Int) (size a : Int) (w : World) (h : Row w ao n zs) (hv : Tells true zs size) (ha : a < 0 ∨ size < a) :
    Calls Try.prog 20 #[.agg #[.slice ao n cap, .int .i64 size], .int .i64 a] w fun e w' => e = .returned (.tuple #[.int .i64 0, .int .i64 0, .int .i64 2]) ∧ Below w.heap.size w w' := by
  have HH := Lib.hid h
  have HV := Lib.hid hv
  clear h hv
  by_cases ha0 : a < 0
  · have hd : decide (a < 0) = true := by simpa using ha0
    clear ha
    go_enter Try.func20, Try.ntmps20
    go_wp2_with (go_at_call 17; refine (rvalid_any _ _ _ _ _ _ _ (HH.out.alloc _) HV.out).mono ?_; rintro e w' ⟨rfl, hb1⟩; obtain ⟨hc, hf⟩ := bcell hb1)
    go_ret3
    exact ⟨rfl, below_box hb1⟩
  · have ha1 : size < a := by omega
    have hd : decide (a < 0) = false := by simpa using ha0
    have hd1 : decide (size < a) = true := by simpa using ha1
    clear ha
    go_enter Try.func20, Try.ntmps20
    go_wp2_with (go_at_call 17; refine (rvalid_any _ _ _ _ _ _ _ (HH.out.alloc _) HV.out).mono ?_; rintro e w' ⟨rfl, hb1⟩; obtain ⟨hc, hf⟩ := bcell hb1)
    go_ret3
    exact ⟨rfl, below_box hb1⟩

set_option maxRecDepth 100000 in
set_option maxHeartbeats 800000 in
theorem rpos_in (b off n cap k : Nat) (zs : List Int) (size a : Int) (w : World) (h : Row w (some ⟨b, off, none⟩) n zs) (hv : Tells true zs size) (ha0 : 0 ≤ a) (ha1 : a ≤ size) (hs : size ≤ 1099511627776)
    (hk : k < n) (h1 : at0 zs k ≤ a) (h10 : 0 ≤ at0 zs k) (h2 : k + 1 < n → a < at0 zs (k + 1)) (hlt : b < w.heap.size) (hcells : ∀ i, i < n → w.cell? ⟨b, off + i, none⟩ = some (.int .i64 (at0 zs i))) :
    Calls Try.prog 20 #[.agg #[.slice (some ⟨b, off, none⟩) n cap, .int .i64 size], .int .i64 a] w fun e w' => e = .returned (.tuple #[.int .i64 ((k : Int) + 1), .int .i64 (a - at0 zs k + 1), .int .i64 0]) ∧ Below w.heap.size w w' := by
  have HZ := Lib.hid h.1
  have hb := h.2.1
  have HH := Lib.hid h
  have HV := Lib.hid hv
  have H2 := Lib.hid h2
  have H1 := Lib.hid h1
  have HC := Lib.hid hcells
  clear h hv h2 hcells h1
  have hd : decide (a < 0) = false := by simpa using ha0
  have hd1 : decide (size < a) = false := by simpa using ha1
  go_enter Try.func20, Try.ntmps20
  go_wp2_with (go_at_call 17; refine (rvalid_any _ _ _ _ _ _ _ (HH.out.alloc _) HV.out).mono ?_; rintro e w' ⟨rfl, hb1⟩; obtain ⟨hc, hf⟩ := bcell hb1)
  have hbx := below_box hb1
  have s0 : w'.cell? ⟨w.heap.size, 0, none⟩ = some (.slice (some ⟨b, off, none⟩) n cap) := (hc w.heap.size 0 (by simp)).trans (by simp)
  have HC2 : Hid (∀ i, i < n → w'.cell? ⟨b, off + i, none⟩ = some (.int .i64 (at0 zs i))) := Lib.hid (fun i hi => (hbx.cell (by exact hlt)).trans (HC.out i hi))
  have HB := Lib.hid hbx
  clear hc hf hb1 hbx
  go_loop [7, 8] (fun kk i => ∃ j m : Nat, j ≤ n ∧ i = .int .i64 j ∧ kk = .int .i64 m ∧ (j ≤ k → m + 1 = j ∨ j = 0 ∧ m = 0) ∧ (k < j → m = k))
    (fun _ i => n - (intOf i).toNat)
  case atStart => exact ⟨0, 0, by omega, rfl, rfl, fun _ => .inr ⟨rfl, rfl⟩, fun g => by omega⟩
  case round =>
    obtain ⟨j, m, hj, rfl, rfl, hm1, hm2⟩ := hrel
    have HM1 := Lib.hid hm1
    have HM2 := Lib.hid hm2
    clear hm1 hm2
    by_cases hjn : j < n
    · have hcj := HC2.out j hjn
      have hj1 : (j : Int) < (n : Int) := by omega
      by_cases hjk : j ≤ k
      · have hq : decide (at0 zs j ≤ a) = true := by
          have := HV.out.yes.le hjk (by rw [HZ.out]; omega)
          have := H1.out
          simp; omega
        go_wp2
        go_round
        case rel => exact ⟨j + 1, j, by omega, by go_num, rfl, fun _ => .inl rfl, fun g => by omega⟩
        case measure => simp only [intOf]; omega
      · have hq : decide (at0 zs j ≤ a) = false := by
          have e1 := HV.out.yes.le (i := k + 1) (j := j) (by omega) (by rw [HZ.out]; omega)
          have e2 := H2.out (by omega)
          simp; omega
        have hmk := HM2.out (by omega)
        subst hmk
        go_wp2
        go_round
        case rel => exact ⟨j + 1, m, by omega, by go_num, rfl, fun g => by omega, fun _ => rfl⟩
        case measure => simp only [intOf]; omega
    · obtain rfl : j = n := by omega
      obtain rfl : m = k := HM2.out hk
      have hcm := HC2.out m hk
      have hj2 : decide ((j : Int) < (j : Int)) = false := by simp
      have hi0 : (0 : Int) ≤ (m : Int) := by omega
      have hi1 : (m : Int) < (j : Int) := by omega
      have h1 := H1.out
      go_wp2
      have hw0 : IntKind.i64.wrap ((m : Int) + 1) = m + 1 := IntWalk.i64_in _ (by omega)
      have hw1 : IntKind.i64.wrap (a - at0 zs m) = a - at0 zs m := IntWalk.i64_in _ (by omega)
      have hw2 : IntKind.i64.wrap (a - at0 zs m + 1) = a - at0 zs m + 1 := IntWalk.i64_in _ (by omega)
      go_quiet (fail)
      go_wp2
      go_ret3
      exact ⟨rfl, HB.out.trans (below_draws _ _ _)⟩

/-- The specification's Position, at every table and offset. -/
theorem rpos_any (ao : Option Addr) (n cap : Nat) (zs : List Int) (size a : Int) (v : Bool) (w : World) (h : Row w ao n zs) (hv : Tells v zs size) :
    Calls Try.prog 20 #[.agg #[.slice ao n cap, .int .i64 size], .int .i64 a] w fun e w' => e = .returned (.tuple #[.int .i64 (pLine v zs size a), .int .i64 (pCol v zs size a), .int .i64 (pErr v size a)]) ∧ Below w.heap.size w w' := by
  cases v with
  | false => exact rpos_bad ao n cap zs size a w h hv
  | true =>
    by_cases ha : 0 ≤ a ∧ a ≤ size
    · have ok := hv.yes
      obtain ⟨l1, l2, l3, l4⟩ := ok.line ha.1
      obtain ⟨k, hk⟩ : ∃ k, upTo zs a = k + 1 := ⟨upTo zs a - 1, by omega⟩
      have hz := h.1
      have hr := h.2.2
      rw [hk] at l1 l2 l3 l4
      rcases hr with hr | ⟨b, off, rfl, hlt, hc⟩
      · have := ok.1; omega
      · refine (rpos_in b off n cap k zs size a w h hv ha.1 ha.2 ok.size.2 (by omega) l3 (ok.bd (by omega)).1 (fun g => l4 (by omega)) hlt hc).mono fun e w' ⟨he, hw⟩ => ⟨?_, hw⟩
        rw [he]
        simp [pLine, pCol, pErr, ha.1, ha.2, hk]
    · refine (rpos_out ao n cap zs size a w h hv (by omega)).mono fun e w' ⟨he, hw⟩ => ⟨?_, hw⟩
      rw [he]
      simp [pLine, pCol, pErr, ha]

end Go.Proofs.Ytlnobjdlcnpjeaa
