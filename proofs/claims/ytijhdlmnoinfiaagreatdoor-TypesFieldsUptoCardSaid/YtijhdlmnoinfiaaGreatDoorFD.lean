/-
  The walks of the program's Value.
-/
import Derived.Test.YtijhdlmnoinfiaaGreatDoorFC
import Derived.Deep.RegionHeld3
set_option linter.all false
namespace Go.Proofs.YtijhdlmnoinfiaaGreatDoor
open Go.RowKit T T.Fo Ty

/-- A box that holds a type, and nothing that was there has changed. -/
def S1 (w : World) (k : Int) (s : ByteArray) (w' : World) : Prop :=
  w'.cell? ⟨w.heap.size, 0, none⟩ = some (.int .i64 k) ∧ w'.cell? ⟨w.heap.size, 1, none⟩ = some (.string s) ∧ w.heap.size < w'.heap.size ∧ Below w.heap.size w w'
theorem S1.start (w : World) (k : Int) (s : ByteArray) : S1 w k s (w.alloc (.cells #[.int .i64 k, .string s] 24)) :=
  ⟨by simp, by simp, by simp, b1 _ _⟩
theorem S1.keep {w V V' : World} {k : Int} {s : ByteArray} (h : S1 w k s V) (hb : Below V.heap.size V V') : S1 w k s V' :=
  ⟨(hb.cell (p := ⟨w.heap.size, 0, none⟩) h.2.2.1).trans h.1, (hb.cell (p := ⟨w.heap.size, 1, none⟩) h.2.2.1).trans h.2.1, Nat.lt_of_lt_of_le h.2.2.1 hb.size, h.2.2.2.trans (hb.mono (by have := h.2.2.1; omega))⟩

abbrev S1' (w : World) (k : Int) (s : ByteArray) (w' : World) : Prop :=
  w'.cell? ⟨w.heap.size, 0, none⟩ = some (.int .i64 k) ∧ w'.cell? ⟨w.heap.size, 1, none⟩ = some (.string s) ∧ w.heap.size < w'.heap.size ∧ Below w.heap.size w w'
theorem S1.go {w V : World} {k : Int} {s : ByteArray} (h : S1 w k s V) : w.heap.size < V.heap.size ∧ V.cell? ⟨w.heap.size, 0, none⟩ = some (.int .i64 k) ∧ V.cell? ⟨w.heap.size, 1, none⟩ = some (.string s) ∧ Below w.heap.size w V := ⟨h.2.2.1, h.1, h.2.1, h.2.2.2⟩
theorem S1.dr {w V : World} {k : Int} {s : ByteArray} (h : S1 w k s V) : w.heap.size < V.drew.heap.size ∧ V.drew.cell? ⟨w.heap.size, 0, none⟩ = some (.int .i64 k) ∧ V.drew.cell? ⟨w.heap.size, 1, none⟩ = some (.string s) ∧ Below w.heap.size w V.drew := ⟨h.2.2.1, h.1, h.2.1, Below.drew h.2.2.2⟩
theorem S1.kp {w V V' : World} {k : Int} {s : ByteArray} (h : w.heap.size < V.heap.size ∧ V.cell? ⟨w.heap.size, 0, none⟩ = some (.int .i64 k) ∧ V.cell? ⟨w.heap.size, 1, none⟩ = some (.string s) ∧ Below w.heap.size w V) (hb : Below V.heap.size V V') :
    w.heap.size < V'.heap.size ∧ V'.cell? ⟨w.heap.size, 0, none⟩ = some (.int .i64 k) ∧ V'.cell? ⟨w.heap.size, 1, none⟩ = some (.string s) ∧ Below w.heap.size w V' :=
  (S1.keep ⟨h.2.1, h.2.2.1, h.1, h.2.2.2⟩ hb).go
set_option maxRecDepth 100000 in
set_option maxHeartbeats 4000000 in
theorem yvalue_1 (s : ByteArray) (w : World) (hs : s.toList = []) : Calls Tryz.prog 20 #[tyv 1 s] w fun e w' => e = .returned (.bool true) ∧ Below w.heap.size w w' := by
  go_enter Tryz.func20, Tryz.ntmps20
  go_wp2_with fail
  have h00 : (s.toList == []) = true := by rw [hs]; rfl
  have h01 : s.toList.isEmpty = true := by rw [hs]; rfl
  go_region_with (go_at_call 36; (with_reducible refine (plain_any _ _).mono ?_); rintro e w' ⟨rfl, hb⟩; have hs2 := S1.kp (S1.dr (S1.start w 1 s)) hb; obtain ⟨hz, hc0, hc1, hB⟩ := hs2; have HB := Lib.hid hB; clear hB hb)
  all_goals
    go_wp2
    go_ret
    exact ⟨rfl, HB.out⟩
set_option maxRecDepth 100000 in
set_option maxHeartbeats 4000000 in
theorem yvalue_2 (s : ByteArray) (w : World) (hs : s.toList = []) : Calls Tryz.prog 20 #[tyv 2 s] w fun e w' => e = .returned (.bool true) ∧ Below w.heap.size w w' := by
  go_enter Tryz.func20, Tryz.ntmps20
  go_wp2_with fail
  have h00 : (s.toList == []) = true := by rw [hs]; rfl
  have h01 : s.toList.isEmpty = true := by rw [hs]; rfl
  go_region_with (first
    | (go_at_call 36; (with_reducible refine (plain_any 1 _).mono ?_); rintro e w' ⟨rfl, hb⟩; have hs2 := S1.kp (S1.dr (S1.start w 2 s)) hb; obtain ⟨hz, hc0, hc1, hB⟩ := hs2; have HS := Lib.hid (S1.go ⟨hc0, hc1, hz, hB⟩); clear hB hb)
    | (go_at_call 36; (with_reducible refine (plain_any 2 _).mono ?_); rintro e w2 ⟨rfl, hb⟩; have hs3 := S1.kp HS.out hb; obtain ⟨hz2, hc20, hc21, hB⟩ := hs3; have HB := Lib.hid hB; clear hB hb))
  all_goals
    go_wp2
    go_ret
    exact ⟨rfl, HB.out⟩
set_option maxRecDepth 100000 in
set_option maxHeartbeats 4000000 in
theorem yvalue_3 (k : Int) (s : ByteArray) (w : World) (hm : s.size ≤ maxLen) (hG : Glob w) (h1 : (k == 1) = false ∨ (s.toList == []) = false) (h2 : (k == 2) = false ∨ (s.toList == []) = false) (v : Bool) (hv : rB k s = v) : Calls Tryz.prog 20 #[tyv k s] w fun e w' => e = .returned (.bool v) ∧ Below w.heap.size w w' := by
  have HR : Hid (∀ V, Below w.heap.size w V → Calls Tryz.prog 41 #[tyv k s] V fun e w' => e = .returned (.bool v) ∧ Below V.heap.size V w') := Lib.hid fun V hV => hv ▸ yref_any k s V hm (glob_below hG hV)
  clear hv hm hG
  have HS := Lib.hid (S1.start w k s)
  rcases h1 with h1 | h1 <;> rcases h2 with h2 | h2 <;>
  · go_enter Tryz.func20, Tryz.ntmps20
    go_wp2_with fail
    go_region_held3 (fun w' => w.heap.size < w'.heap.size ∧ w'.cell? ⟨w.heap.size, 0, none⟩ = some (.int .i64 k) ∧ w'.cell? ⟨w.heap.size, 1, none⟩ = some (.string s) ∧ Below w.heap.size w w')
      (first
        | exact HS.out.dr
        | exact S1.kp (by first | assumption | exact HS.out.dr) hb)
      (first
        | (go_at_call 36; (with_reducible refine (plain_any _ _).mono ?_); rintro e w' ⟨rfl, hb⟩)
        | (go_at_call 41; (with_reducible refine (HR.out _ ?_).mono ?_); (go_split_ands; assumption); rintro e w' ⟨rfl, hb⟩))
    all_goals
      have HBE : Hid (Below w.heap.size w w') := Lib.hid (by go_split_ands; assumption)
      go_wp2
      go_ret
      exact ⟨rfl, HBE.out⟩
theorem yvalue_any (k : Int) (s : ByteArray) (w : World) (hm : s.size ≤ maxLen) (hG : Glob w) : Calls Tryz.prog 20 #[tyv k s] w fun e w' => e = .returned (.bool (valB k s)) ∧ Below w.heap.size w w' := by
  by_cases hs : s.toList = []
  · by_cases h1 : k = 1
    · subst h1
      have e : valB 1 s = true := by unfold valB isK emp; simp [hs]
      rw [e]; exact yvalue_1 s w hs
    · by_cases h2 : k = 2
      · subst h2
        have e : valB 2 s = true := by unfold valB isK emp; simp [hs]
        rw [e]; exact yvalue_2 s w hs
      · have e : rB k s = valB k s := by unfold valB isK emp; simp [h1, h2]
        exact yvalue_3 k s w hm hG (.inl (by simpa using h1)) (.inl (by simpa using h2)) _ e
  · have e : rB k s = valB k s := by unfold valB isK emp; simp [hs]
    have e2 : (s.toList == []) = false := by
      cases hl : s.toList with
      | nil => exact absurd hl hs
      | cons a b => rfl
    exact yvalue_3 k s w hm hG (.inr e2) (.inr e2) _ e
end Go.Proofs.YtijhdlmnoinfiaaGreatDoor
