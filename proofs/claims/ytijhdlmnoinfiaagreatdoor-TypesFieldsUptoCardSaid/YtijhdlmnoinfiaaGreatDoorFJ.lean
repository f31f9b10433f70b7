/-
  The walk of the program's Method at the example's arguments.
-/
import Derived.Test.YtijhdlmnoinfiaaGreatDoorFG
import Derived.RegionTactic
import Derived.BigRegion
set_option linter.all false
namespace Go.Proofs.YtijhdlmnoinfiaaGreatDoor
open Go.RowKit T T.Fo Ty

theorem emp_nil : emp ⟨#[]⟩ = true := by unfold emp; rw [ByteArray.toList_eq]; rfl
theorem vB_12 : vB 12 ⟨#[]⟩ = true := by unfold vB; rw [emp_nil]; rfl
/-- Two boxes, the second zero. -/
structure Sh (w : World) (k : Int) (s : ByteArray) (V : World) : Prop where
  z : w.heap.size + 1 < V.heap.size
  a0 : V.cell? ⟨w.heap.size, 0, none⟩ = some (.int .i64 k)
  a1 : V.cell? ⟨w.heap.size, 1, none⟩ = some (.string s)
  r : V.heap[w.heap.size + 1]? = some (.cells #[.int .i64 0, .string ⟨#[]⟩] 24 (0, 0))
  b : Below w.heap.size w V
theorem Sh.start (w : World) (k : Int) (s : ByteArray) : Sh w k s ((w.alloc (.cells #[.int .i64 k, .string s] 24)).alloc (.cells #[.int .i64 0, .string ⟨#[]⟩] 24)) :=
  have h0 := S2.start w k s 0 ⟨#[]⟩
  ⟨h0.z, h0.a0, h0.a1, by
    have := heap_alloc_new (w.alloc (.cells #[.int .i64 k, .string s] 24)) (.cells #[.int .i64 0, .string ⟨#[]⟩] 24)
    simpa using this, h0.b⟩
theorem Sh.keep {w V V' : World} {k : Int} {s : ByteArray} (h : Sh w k s V) (hb : Below V.heap.size V V') : Sh w k s V' :=
  have z := h.z
  ⟨Nat.lt_of_lt_of_le z hb.size, (hb.cell (p := ⟨w.heap.size, 0, none⟩) (by show w.heap.size < _; omega)).trans h.a0, (hb.cell (p := ⟨w.heap.size, 1, none⟩) (by show w.heap.size < _; omega)).trans h.a1, (hb.block _ z).trans h.r, h.b.trans (hb.mono (by omega))⟩
theorem Sh.al {w V : World} {k : Int} {s : ByteArray} (h : Sh w k s V) (o : Obj) : Sh w k s (V.alloc o) := h.keep (b1 V o)

set_option maxRecDepth 100000 in
set_option maxHeartbeats 4000000 in
theorem ymethod_add (w : World) (hG : Glob w) : Calls Tryz.prog 33 #[tyv 12 ⟨#[]⟩, .string ⟨#[65, 100, 100]⟩] w fun e w' => ∃ g, e = .returned (.tuple #[.slice (some ⟨g, 0, none⟩) 1 1, tyv 1 ⟨#[]⟩, .bool true]) ∧ w'.heap[g]? = some (.cells #[.int .i64 1, .string ⟨#[]⟩] 24 (0, 0)) ∧ w.heap.size ≤ g ∧ g < w'.heap.size ∧ Below w.heap.size w w' := by
  have hm : (⟨#[]⟩ : ByteArray).size ≤ maxLen := by unfold maxLen; decide
  have HV : Hid (∀ V, Below w.heap.size w V → Calls Tryz.prog 40 #[tyv 12 ⟨#[]⟩] V fun e w' => e = .returned (.bool true) ∧ Below V.heap.size V w') := Lib.hid fun V hV => vB_12 ▸ yvalid_any 12 ⟨#[]⟩ V hm (glob_below hG hV)
  have HS := Lib.hid (Sh.start w 12 ⟨#[]⟩)
  clear hm hG
  go_enter Tryz.func33, Tryz.ntmps33
  go_wp2_with fail
  refine (plain_any 1 _).mono ?_
  rintro e V0 ⟨rfl, hb⟩
  have hS0 := HS.out.keep hb
  clear hb
  go_wp2_with fail
  refine (plain_any 0 _).mono ?_
  rintro e V ⟨rfl, hb⟩
  have hS := hS0.keep hb
  have HS1 := Lib.hid hS
  clear hb hS0
  have z1 := hS.z
  have z0 : w.heap.size < V.heap.size := by omega
  have a0 := hS.a0
  have a1 := hS.a1
  have n0 : ¬ w.heap.size = V.heap.size := by omega
  have n1 : ¬ w.heap.size = V.heap.size + 1 := by omega
  have n2 : ¬ w.heap.size + 1 = V.heap.size + 1 := by omega
  have y0 : w.heap.size < V.heap.size + 1 := by omega
  clear hS
  go_wp2_with fail
  refine (HV.out _ ((HS1.out.al _).al _).b).mono ?_
  rintro e V2 ⟨rfl, hb⟩
  have hb7 : V2.heap[V.heap.size]? = some (.cells #[.int .i64 1, .string ⟨#[]⟩] 24 (0, 0)) := (hb.block _ (by simp; omega)).trans ((Below.heap_alloc _ _ _ (by simp)).trans (heap_alloc_new V _))
  have hzb := hb.size
  have hS2 := ((HS1.out.al _).al _).keep hb
  obtain ⟨x0, x1, _⟩ := box2 hb7
  obtain ⟨r0, r1, rf⟩ := box2 hS2.r
  have rf0 := rf 0
  have rf1 := rf 1
  have q0 := hS2.a0
  have q1 := hS2.a1
  have qz := hS2.z
  have qb : w.heap.size < V2.heap.size := by omega
  have HB := Lib.hid hS2.b
  have qv : V.heap.size < V2.heap.size := by simp at hzb; omega
  have e1 : ¬ w.heap.size + 1 = V2.heap.size := by omega
  clear hb hS2 hb7 rf hzb a0 a1
  go_wp2
  go_region
  go_wp2
  refine bodyPost_ret (v := .tuple #[.slice (some ⟨V2.heap.size, 0, none⟩) 1 1, tyv 1 ⟨#[]⟩, .bool true]) (by simp [results, Tryz.results33, go_sem, qz, qb, e1, r0, r1, rf0, rf1]) rfl ⟨V2.heap.size, rfl, ?_, by omega, ?_, ?_⟩
  · have := heap_alloc_new ((V2.setCell ⟨w.heap.size + 1, 0, none⟩ (.int .i64 1)).setCell ⟨w.heap.size + 1, 1, none⟩ (.string ⟨#[]⟩)) (.cells #[.int .i64 1, .string ⟨#[]⟩] 24)
    simp only [World.size_setCell] at this
    exact this
  · simp
  · exact (((HB.out.setCell (by simp) _).setCell (by simp) _).alloc (by simp; omega) _).drew
end Go.Proofs.YtijhdlmnoinfiaaGreatDoor
