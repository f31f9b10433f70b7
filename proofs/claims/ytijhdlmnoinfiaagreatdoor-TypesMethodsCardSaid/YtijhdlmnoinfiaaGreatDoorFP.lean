/-
  The walks of the program's Method at CompareAndSwap.
-/
import Derived.Test.YtijhdlmnoinfiaaGreatDoorFN
import Derived.RegionTactic
import Derived.BigRegion
set_option linter.all false
namespace Go.Proofs.YtijhdlmnoinfiaaGreatDoor
open Go.RowKit T T.Fo Ty
set_option maxRecDepth 100000 in
set_option maxHeartbeats 8000000 in
theorem ym_12_CompareAndSwap (w : World) (hG : Glob w) : Calls Tryz.prog 33 #[tyv 12 ⟨#[]⟩, .string ⟨#[67, 111, 109, 112, 97, 114, 101, 65, 110, 100, 83, 119, 97, 112]⟩] w (Mt w [1, 1] 2 true) := by
  have hm : (⟨#[]⟩ : ByteArray).size ≤ maxLen := by unfold maxLen; decide
  have HV : Hid (∀ V, Below w.heap.size w V → Calls Tryz.prog 40 #[tyv 12 ⟨#[]⟩] V fun e w' => e = .returned (.bool true) ∧ Below V.heap.size V w') := Lib.hid fun V hV => (vB_k (k := 12) (by omega) (by omega) (by omega)) ▸ yvalid_any 12 ⟨#[]⟩ V hm (glob_below hG hV)
  have HS := Lib.hid (Sh.start w 12 ⟨#[]⟩)
  clear hm hG
  go_enter Tryz.func33, Tryz.ntmps33
  go_wp2_with fail
  refine (plain_any 1 _).mono ?_
  rintro e V0 ⟨rfl, hb⟩
  have hS0 := HS.out.keep hb
  clear hb
  go_wp2_with fail
  refine (plain_any 0 _).mono ?_
  rintro e V ⟨rfl, hb⟩
  have hS := hS0.keep hb
  have HS1 := Lib.hid hS
  have z1 := hS.z
  have z0 : w.heap.size < V.heap.size := by omega
  have a0 := hS.a0
  have a1 := hS.a1
  have n0 : ¬ w.heap.size = V.heap.size := by omega
  have n1 : ¬ w.heap.size = V.heap.size + 1 := by omega
  have y0 : w.heap.size < V.heap.size + 1 := by omega
  clear hb hS0 hS
  go_wp2_with fail
  refine (HV.out _ ((HS1.out.al _).al _).b).mono ?_
  rintro e V2 ⟨rfl, hb⟩
  obtain ⟨⟨x0, x1⟩, ⟨u0, u1⟩, ⟨r0, r1, rf0, rf1⟩, ⟨q0, q1⟩, qz, qv, zz, hB⟩ := mid_m HS1.out hb
  have HB := Lib.hid hB
  have qb : w.heap.size < V2.heap.size := by omega
  have qw : V.heap.size < V2.heap.size := by omega
  have e1 : ¬ w.heap.size + 1 = V2.heap.size := by omega
  have e2 : ¬ V.heap.size = w.heap.size + 1 := by omega
  have e3 : ¬ V.heap.size + 1 = w.heap.size + 1 := by omega
  clear hb hB a0 a1 z1 z0 n0 n1 y0 zz
  go_wp2
  go_region_with (first
    | (go_at_call 36; (with_reducible refine (plain_any 2 V2.drew).mono ?_); rintro e V3 ⟨rfl, hb⟩; have hb2 : Below V2.heap.size V2 V3 := (Below.drew (Below.refl V2.heap.size V2)).trans hb; clear hb; have h2 : Below V2.heap.size V2 V3 := hb2; have t0 := (h2.cell (p := ⟨V.heap.size, 0, none⟩) qw).trans x0; have t1 := (h2.cell (p := ⟨V.heap.size, 1, none⟩) qw).trans x1; have t5 := (h2.cell (p := ⟨w.heap.size + 1, 0, none⟩) qz).trans r0; have t6 := (h2.cell (p := ⟨w.heap.size + 1, 1, none⟩) qz).trans r1; have t7 := (h2.frozen (p := ⟨w.heap.size + 1, 0, none⟩) qz).trans rf0; have t8 := (h2.frozen (p := ⟨w.heap.size + 1, 1, none⟩) qz).trans rf1; have t9 : V2.heap.size ≤ V3.heap.size := h2.size; have ta : w.heap.size + 1 < V3.heap.size := (by omega); have tb : V.heap.size < V3.heap.size := (by omega); have tc : ¬ w.heap.size + 1 = V3.heap.size := (by omega); have td : ¬ V.heap.size = V3.heap.size := (by omega); have HB3 := Lib.hid (HB.out.trans (h2.mono (by omega))); clear h2 hb2 t9)
    | (go_at_call 36; (with_reducible refine (plain_any 2 _).mono ?_); rintro e V3 ⟨rfl, hb⟩; have hrow : V3.heap[V2.heap.size]? = some (.cells (tcs [1, 1]).toArray 24 (0, 0)) := (hb.block V2.heap.size (by simp)).trans (heap_alloc_new V2 _); have hb2 : Below V2.heap.size V2 V3 := ((Below.refl V2.heap.size V2).alloc (Nat.le_refl _) _).drew.trans (hb.mono (by simp)); have HR := Lib.hid hrow; clear hb hrow; have h2 : Below V2.heap.size V2 V3 := hb2; have t0 := (h2.cell (p := ⟨V.heap.size, 0, none⟩) qw).trans x0; have t1 := (h2.cell (p := ⟨V.heap.size, 1, none⟩) qw).trans x1; have t5 := (h2.cell (p := ⟨w.heap.size + 1, 0, none⟩) qz).trans r0; have t6 := (h2.cell (p := ⟨w.heap.size + 1, 1, none⟩) qz).trans r1; have t7 := (h2.frozen (p := ⟨w.heap.size + 1, 0, none⟩) qz).trans rf0; have t8 := (h2.frozen (p := ⟨w.heap.size + 1, 1, none⟩) qz).trans rf1; have t9 : V2.heap.size ≤ V3.heap.size := h2.size; have ta : w.heap.size + 1 < V3.heap.size := (by omega); have tb : V.heap.size < V3.heap.size := (by omega); have tc : ¬ w.heap.size + 1 = V3.heap.size := (by omega); have td : ¬ V.heap.size = V3.heap.size := (by omega); have HB3 := Lib.hid (HB.out.trans (h2.mono (by omega))); clear h2 hb2 t9))
  all_goals go_wp2
  all_goals first
    | (refine bodyPost_ret (v := .tuple #[.slice (some ⟨V2.heap.size, 0, none⟩) 2 2, tyv 2 ⟨#[]⟩, .bool true]) ?_ rfl ⟨_, rfl, .inr ⟨V2.heap.size, rfl, ?_, ?_⟩, ?_⟩
       · simp [results, Tryz.results33, go_sem, t0, t1, t5, t6, t7, t8, ta, tb, tc, td, e2, e3]
       · rw [Below.heap_setCell _ _ _ _ (fun h => e1 h.symm), Below.heap_setCell _ _ _ _ (fun h => e1 h.symm)]
         exact HR.out
       · have := (Array.getElem?_eq_some_iff.1 HR.out).1
         simpa using this
       · exact (HB3.out.setCell (by simp) _).setCell (by simp) _)
    | (refine bodyPost_ret (v := .tuple #[.slice (some ⟨V3.heap.size, 0, none⟩) 2 2, tyv 2 ⟨#[]⟩, .bool true]) ?_ rfl ⟨_, rfl, .inr ⟨V3.heap.size, rfl, ?_, ?_⟩, ?_⟩
       · simp [results, Tryz.results33, go_sem, t0, t1, t5, t6, t7, t8, ta, tb, tc, td, e2, e3]
       · have := heap_alloc_new ((V3.setCell ⟨w.heap.size + 1, 0, none⟩ (.int .i64 2)).setCell ⟨w.heap.size + 1, 1, none⟩ (.string ⟨#[]⟩)) (.cells (tcs [1, 1]).toArray 24)
         simp only [World.size_setCell] at this
         exact this
       · simp
       · repeat' (first | exact HB3.out | apply Below.setCell | apply Below.alloc | apply Below.drew)
         all_goals (try simp)
         all_goals (try omega))
end Go.Proofs.YtijhdlmnoinfiaaGreatDoor
