/-
  The walk of the program's Assignable.
-/
import Derived.Test.YtijhdlmnoinfiaaGreatDoorFD
set_option linter.all false
namespace Go.Proofs.YtijhdlmnoinfiaaGreatDoor
open Go.RowKit T T.Fo Ty

/-- Two boxes that hold types, and nothing that was there has changed. -/
structure S2 (w : World) (k : Int) (s : ByteArray) (k' : Int) (s' : ByteArray) (V : World) : Prop where
  z : w.heap.size + 1 < V.heap.size
  a0 : V.cell? ⟨w.heap.size, 0, none⟩ = some (.int .i64 k)
  a1 : V.cell? ⟨w.heap.size, 1, none⟩ = some (.string s)
  c0 : V.cell? ⟨w.heap.size + 1, 0, none⟩ = some (.int .i64 k')
  c1 : V.cell? ⟨w.heap.size + 1, 1, none⟩ = some (.string s')
  b : Below w.heap.size w V
theorem S2.start (w : World) (k : Int) (s : ByteArray) (k' : Int) (s' : ByteArray) : S2 w k s k' s' ((w.alloc (.cells #[.int .i64 k, .string s] 24)).alloc (.cells #[.int .i64 k', .string s'] 24)) :=
  ⟨by simp, by simp, by simp, by simp, by simp, (b1 _ _).alloc (by simp) _⟩
theorem S2.keep {w V V' : World} {k k' : Int} {s s' : ByteArray} (h : S2 w k s k' s' V) (hb : Below V.heap.size V V') : S2 w k s k' s' V' :=
  have z := h.z
  ⟨Nat.lt_of_lt_of_le z hb.size, (hb.cell (p := ⟨w.heap.size, 0, none⟩) (by show w.heap.size < _; omega)).trans h.a0, (hb.cell (p := ⟨w.heap.size, 1, none⟩) (by show w.heap.size < _; omega)).trans h.a1,
    (hb.cell (p := ⟨w.heap.size + 1, 0, none⟩) z).trans h.c0, (hb.cell (p := ⟨w.heap.size + 1, 1, none⟩) z).trans h.c1, h.b.trans (hb.mono (by omega))⟩
theorem S2.dr {w V : World} {k k' : Int} {s s' : ByteArray} (h : S2 w k s k' s' V) : S2 w k s k' s' V.drew := ⟨h.z, h.a0, h.a1, h.c0, h.c1, Below.drew h.b⟩

theorem S2.dd {w V : World} {k k' : Int} {s s' : ByteArray} (h : S2 w k s k' s' V) : w.heap.size + 1 < V.heap.size ∧ V.cell? ⟨w.heap.size, 0, none⟩ = some (.int .i64 k) ∧ V.cell? ⟨w.heap.size, 1, none⟩ = some (.string s) ∧ V.cell? ⟨w.heap.size + 1, 0, none⟩ = some (.int .i64 k') ∧ V.cell? ⟨w.heap.size + 1, 1, none⟩ = some (.string s') ∧ Below w.heap.size w V :=
  ⟨h.z, h.a0, h.a1, h.c0, h.c1, h.b⟩
theorem S2.kp {w V V' : World} {k k' : Int} {s s' : ByteArray} (h : w.heap.size + 1 < V.heap.size ∧ V.cell? ⟨w.heap.size, 0, none⟩ = some (.int .i64 k) ∧ V.cell? ⟨w.heap.size, 1, none⟩ = some (.string s) ∧ V.cell? ⟨w.heap.size + 1, 0, none⟩ = some (.int .i64 k') ∧ V.cell? ⟨w.heap.size + 1, 1, none⟩ = some (.string s') ∧ Below w.heap.size w V) (hb : Below V.heap.size V V') :
    w.heap.size + 1 < V'.heap.size ∧ V'.cell? ⟨w.heap.size, 0, none⟩ = some (.int .i64 k) ∧ V'.cell? ⟨w.heap.size, 1, none⟩ = some (.string s) ∧ V'.cell? ⟨w.heap.size + 1, 0, none⟩ = some (.int .i64 k') ∧ V'.cell? ⟨w.heap.size + 1, 1, none⟩ = some (.string s') ∧ Below w.heap.size w V' :=
  (S2.keep ⟨h.1, h.2.1, h.2.2.1, h.2.2.2.1, h.2.2.2.2.1, h.2.2.2.2.2⟩ hb).dd
theorem val3 (s : ByteArray) : valB 3 s = false := by unfold valB isK; rw [rB_out (.inl (by omega))]; simp
set_option maxRecDepth 100000 in
set_option maxHeartbeats 4000000 in
theorem yassign_nil (k : Int) (s : ByteArray) (w : World) (hm : s.size ≤ maxLen) (hG : Glob w) (hne : (3 == k) = false ∨ (([] : List UInt8) == s.toList) = false) : Calls Tryz.prog 23 #[tyv k s, tyv 3 ⟨#[]⟩] w fun e w' => e = .returned (.bool (rB k s)) ∧ Below w.heap.size w w' := by
  obtain ⟨r, hr⟩ : ∃ r, rB k s = r := ⟨_, rfl⟩
  rw [hr]
  have HR : Hid (∀ V, Below w.heap.size w V → Calls Tryz.prog 41 #[tyv k s] V fun e w' => e = .returned (.bool r) ∧ Below V.heap.size V w') := Lib.hid fun V hV => hr ▸ yref_any k s V hm (glob_below hG hV)
  have HS := Lib.hid (S2.start w k s 3 ⟨#[]⟩).dr
  clear hr hm hG
  rcases hne with hne | hne <;>
  · go_enter Tryz.func23, Tryz.ntmps23
    go_wp2_with fail
    go_region_with (first
      | (go_at_call 36; (with_reducible refine (plain_any _ _).mono ?_); rintro e w1 ⟨rfl, hb⟩; have HA := Lib.hid (HS.out.keep hb); obtain ⟨az, aa0, aa1, ac0, ac1, _⟩ := HA.out; clear hb)
      | (go_at_call 41; (with_reducible refine (HR.out _ HA.out.b).mono ?_); rintro e w2 ⟨rfl, hb⟩; have HB := Lib.hid (HA.out.keep hb); clear hb))
    all_goals
      go_wp2
      go_ret
      exact ⟨rfl, HB.out.b⟩
set_option maxRecDepth 100000 in
set_option maxHeartbeats 4000000 in
theorem yassign_33 (w : World) (hG : Glob w) : Calls Tryz.prog 23 #[tyv 3 ⟨#[]⟩, tyv 3 ⟨#[]⟩] w fun e w' => e = .returned (.bool false) ∧ Below w.heap.size w w' := by
  have hm : (⟨#[]⟩ : ByteArray).size ≤ maxLen := by unfold maxLen; decide
  have HR : Hid (∀ V, Below w.heap.size w V → Calls Tryz.prog 41 #[tyv 3 ⟨#[]⟩] V fun e w' => e = .returned (.bool false) ∧ Below V.heap.size V w') := Lib.hid fun V hV => (rB_out (k := 3) (s := ⟨#[]⟩) (.inl (by omega))) ▸ yref_any 3 ⟨#[]⟩ V hm (glob_below hG hV)
  have HV : Hid (∀ V, Below w.heap.size w V → Calls Tryz.prog 20 #[tyv 3 ⟨#[]⟩] V fun e w' => e = .returned (.bool false) ∧ Below V.heap.size V w') := Lib.hid fun V hV => (val3 ⟨#[]⟩) ▸ yvalue_any 3 ⟨#[]⟩ V hm (glob_below hG hV)
  have HS := Lib.hid (S2.start w 3 ⟨#[]⟩ 3 ⟨#[]⟩).dr
  clear hm hG
  go_enter Tryz.func23, Tryz.ntmps23
  go_wp2_with fail
  go_region_with (first
    | (go_at_call 20; (with_reducible refine (HV.out _ HS.out.b).mono ?_); rintro e w1 ⟨rfl, hb⟩; have HV1 := Lib.hid (HS.out.keep hb); obtain ⟨vz, va0, va1, vc0, vc1, _⟩ := HV1.out; clear hb)
    | (go_at_call 36; (with_reducible refine (plain_any _ _).mono ?_); rintro e w1 ⟨rfl, hb⟩; have HA := Lib.hid (HV1.out.keep hb); obtain ⟨az, aa0, aa1, ac0, ac1, _⟩ := HA.out; clear hb)
    | (go_at_call 41; (with_reducible refine (HR.out _ HA.out.b).mono ?_); rintro e w2 ⟨rfl, hb⟩; have HB := Lib.hid (HA.out.keep hb); clear hb))
  all_goals
    go_wp2
    go_ret
    exact ⟨rfl, HB.out.b⟩
end Go.Proofs.YtijhdlmnoinfiaaGreatDoor
