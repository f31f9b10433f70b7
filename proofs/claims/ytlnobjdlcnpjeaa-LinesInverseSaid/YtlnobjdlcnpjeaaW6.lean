/-
  The walk of lines.Position.
-/
import Derived.Test.YtlnobjdlcnpjeaaW4
import Derived.Test.YtlnobjdlcnpjeaaW5
namespace Go.Proofs.Ytlnobjdlcnpjeaa
open Go.RowKit M

theorem below_box {w w' : World} {o : Obj} (h : Below (w.alloc o).heap.size (w.alloc o) w') : Below w.heap.size w w' :=
  ((Below.refl _ _).alloc (Nat.le_refl _) _).trans (h.mono (by simp))

set_option maxRecDepth 100000 in
set_option maxHeartbeats 800000 in
theorem pos_bad (ao : Option Addr) (n cap : Nat) (zs : List Int) (size a : Int) (w : World) (h : Row w ao n zs) (hv : Tells false zs size) :
    Calls Try.prog 19 #[.agg #[.slice ao n cap, .int .i64 size], .int .i64 a] w fun e w' => e = .returned (.tuple #[.int .i64 0, .int .i64 0, .int .i64 1]) ∧ Below w.heap.size w w' := by
  have HH := Lib.hid h
  have HV := Lib.hid hv
  clear h hv
  go_enter Try.func19, Try.ntmps19
  go_wp2_with (go_at_call 14; refine (valid_any _ _ _ _ _ _ _ (HH.out.alloc _) HV.out).mono ?_; rintro e w' ⟨rfl, hb1⟩; obtain ⟨hc, hf⟩ := bcell hb1)
  go_ret3
  exact ⟨rfl, below_box hb1⟩

set_option maxRecDepth 100000 in
set_option maxHeartbeats 800000 in
theorem pos_out (ao : Option Addr) (n cap : Nat) (zs : List Int) (size a : Int) (w : World) (h : Row w ao n zs) (hv : Tells true zs size) (ha : a < 0 ∨ size < a) :
    Calls Try.prog 19 #[.agg #[.slice ao n cap, .int .i64 size], .int .i64 a] w fun e w' => e = .returned (.tuple #[.int .i64 0, .int .i64 0, .int .i64 2]) ∧ Below w.heap.size w w' := by
  have HH := Lib.hid h
  have HV := Lib.hid hv
  clear h hv
  by_cases ha0 : a < 0
  · have hd : decide (a < 0) = true := by simpa using ha0
    clear ha
    go_enter Try.func19, Try.ntmps19
    go_wp2_with (go_at_call 14; refine (valid_any _ _ _ _ _ _ _ (HH.out.alloc _) HV.out).mono ?_; rintro e w' ⟨rfl, hb1⟩; obtain ⟨hc, hf⟩ := bcell hb1)
    go_ret3
    exact ⟨rfl, below_box hb1⟩
  · have ha1 : size < a := by omega
    have hd : decide (a < 0) = false := by simpa using ha0
    have hd1 : decide (size < a) = true := by simpa using ha1
    clear ha
    go_enter Try.func19, Try.ntmps19
    go_wp2_with (go_at_call 14; refine (valid_any _ _ _ _ _ _ _ (HH.out.alloc _) HV.out).mono ?_; rintro e w' ⟨rfl, hb1⟩; obtain ⟨hc, hf⟩ := bcell hb1)
    go_ret3
    exact ⟨rfl, below_box hb1⟩

theorem search_cut {b off n cap : Nat} {zs : List Int} {size a : Int} {w : World} {k j : Nat} {f : Bool} (ok : Ok zs size) (hz : zs.length = n) (hb : (n : Int) ≤ 1000000) (hc : ∀ i, i < n → w.cell? ⟨b, off + i, none⟩ = some (.int .i64 (at0 zs i)))
    (hk : k < n) (h1 : at0 zs k ≤ a) (h2 : k + 1 < n → a < at0 zs (k + 1)) (hf : (f = true ∧ j = k ∧ at0 zs k = a) ∨ (f = false ∧ j = k + 1 ∧ at0 zs k ≠ a)) :
    Calls Try.prog 25 #[.slice (some ⟨b, off, none⟩) n cap, .int .i64 a] w fun e w' => e = .returned (.tuple #[.int .i64 j, .bool f]) ∧ w = w' := by
  rcases hf with ⟨rfl, rfl, e⟩ | ⟨rfl, rfl, e⟩
  · refine search_any b off n cap j zs a w hb hc (by omega) (fun i hi => ?_) (fun i hi hin => ?_) true (by simp [e]; omega)
    · have := ok.lt hi (by omega); omega
    · have := ok.le hi (by omega); omega
  · refine search_any b off n cap (k + 1) zs a w hb hc (by omega) (fun i hi => ?_) (fun i hi hin => ?_) false (by simp; intro g; have := h2 g; omega)
    · have := ok.le (i := i) (j := k) (by omega) (by omega); omega
    · have := ok.le hi (by omega); have := h2 (by omega); omega

set_option maxRecDepth 100000 in
set_option maxHeartbeats 800000 in
theorem pos_in (b off n cap k : Nat) (zs : List Int) (size a : Int) (w : World) (h : Row w (some ⟨b, off, none⟩) n zs) (hv : Tells true zs size) (ha0 : 0 ≤ a) (ha1 : a ≤ size) (hs : size ≤ 1099511627776)
    (hk : k < n) (h1 : at0 zs k ≤ a) (h10 : 0 ≤ at0 zs k) (h2 : k + 1 < n → a < at0 zs (k + 1)) (hlt : b < w.heap.size) (hcells : ∀ i, i < n → w.cell? ⟨b, off + i, none⟩ = some (.int .i64 (at0 zs i))) :
    Calls Try.prog 19 #[.agg #[.slice (some ⟨b, off, none⟩) n cap, .int .i64 size], .int .i64 a] w fun e w' => e = .returned (.tuple #[.int .i64 ((k : Int) + 1), .int .i64 (a - at0 zs k + 1), .int .i64 0]) ∧ Below w.heap.size w w' := by
  have HZ := Lib.hid h.1
  have hb := h.2.1
  have HH := Lib.hid h
  have HV := Lib.hid hv
  have H2 := Lib.hid h2
  have HC := Lib.hid hcells
  clear h hv h2 hcells
  have hd : decide (a < 0) = false := by simpa using ha0
  have hd1 : decide (size < a) = false := by simpa using ha1
  have hi0 : (0 : Int) ≤ (k : Int) := by omega
  have hi1 : (k : Int) < (n : Int) := by omega
  have hcc := HC.out k hk
  by_cases he : at0 zs k = a
  · have HF : Hid (∀ w', Below w.heap.size w w' → Calls Try.prog 25 #[.slice (some ⟨b, off, none⟩) n cap, .int .i64 a] w' fun e w'' => e = .returned (.tuple #[.int .i64 (k : Int), .bool true]) ∧ w' = w'') :=
      fun w' hb' => search_cut HV.out.yes HZ.out hb (fun i hi => (hb'.cell (by exact hlt)).trans (HC.out i hi)) hk h1 H2.out (.inl ⟨rfl, rfl, he⟩)
    have HE := Lib.hid he
    clear he
    go_enter Try.func19, Try.ntmps19
    go_wp2_with (first
      | (go_at_call 14; refine (valid_any _ _ _ _ _ _ _ (HH.out.alloc _) HV.out).mono ?_; rintro e w' ⟨rfl, hb1⟩; obtain ⟨hc, hf⟩ := bcell hb1)
      | (go_at_call 25; refine (HF.out _ (below_box hb1)).mono ?_; rintro e w'' ⟨rfl, rfl⟩))
    have hw0 : IntKind.i64.wrap (k : Int) = k := IntWalk.i64_in _ (by omega)
    have hw1 : IntKind.i64.wrap (a - at0 zs k) = a - at0 zs k := IntWalk.i64_in _ (by omega)
    have hw2 : IntKind.i64.wrap (a - at0 zs k + 1) = a - at0 zs k + 1 := IntWalk.i64_in _ (by omega)
    go_quiet (fail)
    go_wp2
    go_ret3
    exact ⟨rfl, (below_box hb1).trans (below_draws _ _ _)⟩
  · have HF : Hid (∀ w', Below w.heap.size w w' → Calls Try.prog 25 #[.slice (some ⟨b, off, none⟩) n cap, .int .i64 a] w' fun e w'' => e = .returned (.tuple #[.int .i64 ((k : Int) + 1), .bool false]) ∧ w' = w'') :=
      fun w' hb' => search_cut (j := k + 1) HV.out.yes HZ.out hb (fun i hi => (hb'.cell (by exact hlt)).trans (HC.out i hi)) hk h1 H2.out (.inr ⟨rfl, rfl, he⟩)
    have HE := Lib.hid he
    clear he
    go_enter Try.func19, Try.ntmps19
    go_wp2_with (first
      | (go_at_call 14; refine (valid_any _ _ _ _ _ _ _ (HH.out.alloc _) HV.out).mono ?_; rintro e w' ⟨rfl, hb1⟩; obtain ⟨hc, hf⟩ := bcell hb1)
      | (go_at_call 25; refine (HF.out _ (below_box hb1)).mono ?_; rintro e w'' ⟨rfl, rfl⟩))
    have hw0 : IntKind.i64.wrap (k : Int) = k := IntWalk.i64_in _ (by omega)
    have hw1 : IntKind.i64.wrap (a - at0 zs k) = a - at0 zs k := IntWalk.i64_in _ (by omega)
    have hw2 : IntKind.i64.wrap (a - at0 zs k + 1) = a - at0 zs k + 1 := IntWalk.i64_in _ (by omega)
    go_quiet (fail)
    go_wp2
    go_ret3
    exact ⟨rfl, (below_box hb1).trans (below_draws _ _ _)⟩

/-- lines.Position, at every table and offset. -/
theorem pos_any (ao : Option Addr) (n cap : Nat) (zs : List Int) (size a : Int) (v : Bool) (w : World) (h : Row w ao n zs) (hv : Tells v zs size) :
    Calls Try.prog 19 #[.agg #[.slice ao n cap, .int .i64 size], .int .i64 a] w fun e w' => e = .returned (.tuple #[.int .i64 (pLine v zs size a), .int .i64 (pCol v zs size a), .int .i64 (pErr v size a)]) ∧ Below w.heap.size w w' := by
  cases v with
  | false => exact pos_bad ao n cap zs size a w h hv
  | true =>
    by_cases ha : 0 ≤ a ∧ a ≤ size
    · have ok := hv.yes
      obtain ⟨l1, l2, l3, l4⟩ := ok.line ha.1
      obtain ⟨k, hk⟩ : ∃ k, upTo zs a = k + 1 := ⟨upTo zs a - 1, by omega⟩
      have hz := h.1
      have hr := h.2.2
      rw [hk] at l1 l2 l3 l4
      rcases hr with hr | ⟨b, off, rfl, hlt, hc⟩
      · have := ok.1; omega
      · refine (pos_in b off n cap k zs size a w h hv ha.1 ha.2 ok.size.2 (by omega) l3 (ok.bd (by omega)).1 (fun g => l4 (by omega)) hlt hc).mono fun e w' ⟨he, hw⟩ => ⟨?_, hw⟩
        rw [he]
        simp [pLine, pCol, pErr, ha.1, ha.2, hk]
    · refine (pos_out ao n cap zs size a w h hv (by omega)).mono fun e w' ⟨he, hw⟩ => ⟨?_, hw⟩
      rw [he]
      simp [pLine, pCol, pErr, ha]

end Go.Proofs.Ytlnobjdlcnpjeaa
