/-
  The walk of the law LinesTable.
-/
import Derived.Test.YtlnobjdlcnpjeaaL2
import Derived.Test.YtlnobjdlcnpjeaaW14
import Derived.Test.YtlnobjdlcnpjeaaMath3
namespace Go.Proofs.Ytlnobjdlcnpjeaa
open Go.RowKit M

set_option maxRecDepth 100000 in
set_option maxHeartbeats 400000 in
theorem lawTable_long (s : ByteArray) (w : World) (hs : 3000 < s.size) (hm : (s.size : Int) ≤ 9223372036854775807) :
    Calls Try.prog 3 #[.string s] w fun e w' => e = .returned (.bool true) ∧ Below w.heap.size w w' := by
  have hd : decide ((3000 : Int) < (s.size : Int)) = true := by simp; omega
  go_enter Try.func3, Try.ntmps3
  go_wp2_with (go_at_call 10; refine (awake_any _).mono ?_; rintro e w' ⟨rfl, hb1⟩; obtain ⟨hc, hf⟩ := bcell hb1)
  go_ret
  exact ⟨rfl, hb1⟩

/-- The starts of the lines of s, under one name. -/
def sts (s : ByteArray) : List Int := st s s.size
theorem sts_cnt (s : ByteArray) (n : Nat) (h : n = (sts s).length) : (cnt true (sts s) == (n : Int)) = true := by simp [cnt, h]

set_option maxRecDepth 100000 in
set_option maxHeartbeats 1600000 in
theorem lawTable_short (s : ByteArray) (w : World) (hs : s.size ≤ 3000) :
    Calls Try.prog 3 #[.string s] w fun e w' => e = .returned (.bool true) ∧ Below w.heap.size w w' := by
  have hd : decide ((3000 : Int) < (s.size : Int)) = false := by simp; omega
  have hsz : s.size ≤ 100000 := by omega
  obtain ⟨n, hn⟩ : ∃ n, n = (sts s).length := ⟨_, rfl⟩
  have HT : Hid (Tells true (sts s) s.size) := Lib.hid (by simp [Tells]; exact st_ok s s.size (by omega))
  have hq := sts_cnt s n hn
  have OF1 : Hid (∀ w, Calls Try.prog 11 #[.string s] w fun e w' => ∃ ao cap, e = .returned (.agg #[.slice ao n cap, .int .i64 s.size]) ∧ Row w' ao n (sts s) ∧ Below w.heap.size w w') :=
    Lib.hid (fun w => (of_any s w hsz).mono fun e w' h => by rw [hn]; exact h)
  have OF2 : Hid (∀ w, Calls Try.prog 13 #[.string s] w fun e w' => ∃ ao cap, e = .returned (.agg #[.slice ao n cap, .int .i64 s.size]) ∧ Row w' ao n (sts s) ∧ Below w.heap.size w w') :=
    Lib.hid (fun w => (rof_any s w hsz).mono fun e w' h => by rw [hn]; exact h)
  have hfd : ∀ (a b : Value) (w : World), (Instr.field 25 (.agg #[a, b]) 0).run Try.prog w = .ok a w := fun _ _ _ => by kernel_rfl
  clear hn
  go_enter Try.func3, Try.ntmps3
  go_wp2_with fail
  refine (awake_any _).mono ?_
  rintro e w1 ⟨rfl, hb1⟩
  go_wp2_with fail
  refine (OF1.out _).mono ?_
  rintro e w2 ⟨ao, cap, rfl, hr, hb2⟩
  have s3 : Row (w2.alloc (.cells #[.slice ao n cap, .int .i64 s.size] 25)) ao n (sts s) := hr.below ((Below.refl _ _).alloc (Nat.le_refl _) _)
  have s4 : Below w2.heap.size w2 (w2.alloc (.cells #[.slice ao n cap, .int .i64 s.size] 25)) := (Below.refl _ _).alloc (Nat.le_refl _) _
  have HB : Hid (Below w.heap.size w w2) := Lib.hid (hb1.trans (hb2.mono hb1.size))
  clear hb1 hb2 hr
  go_wp2_with fail
  go_region_held3 (fun w' => w'.cell? ⟨w2.heap.size, 0, none⟩ = some (.slice ao n cap) ∧ w'.cell? ⟨w2.heap.size, 1, none⟩ = some (.int .i64 s.size) ∧ w2.heap.size < w'.heap.size ∧ Row w' ao n (sts s) ∧ Below w2.heap.size w2 w')
    (first
      | (go_split_ands; exact keep_held (by assumption) (by assumption) (by assumption) (by assumption) (by assumption) hb)
      | (exact ⟨by simp, by simp, by simp, s3, s4.drew⟩))
    (first
      | (go_at_call 13; refine (OF2.out _).mono ?_; rintro e w' ⟨ao1, cap1, rfl, hr1, hb⟩)
      | (go_at_call 12; refine (same_any _ _ _ _ _ (sts s) _ _ ?_ hr1).mono ?_; (go_split_ands; assumption); rintro e w' ⟨rfl, hb⟩)
      | (go_at_call 14; refine (valid_any _ _ _ (sts s) _ true _ ?_ HT.out).mono ?_; (go_split_ands; assumption); rintro e w' ⟨rfl, hb⟩)
      | (go_at_call 15; refine (count_any _ _ _ (sts s) _ true _ ?_ HT.out).mono ?_; (go_split_ands; assumption); rintro e w' ⟨rfl, hb⟩))
  all_goals go_split_ands
  all_goals go_wp2
  all_goals go_ret
  all_goals exact ⟨ret_bool (by simp), HB.out.trans ((by assumption : Below w2.heap.size w2 _).mono HB.out.size)⟩
end Go.Proofs.Ytlnobjdlcnpjeaa
