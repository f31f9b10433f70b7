/-
  The walks of the program's Method at Do and CompareAndSwap.
-/
import Derived.Test.YtijhdlmnoinfiaaGreatDoorFN
import Derived.RegionTactic
import Derived.BigRegion
set_option linter.all false
namespace Go.Proofs.YtijhdlmnoinfiaaGreatDoor
open Go.RowKit T T.Fo Ty
set_option maxRecDepth 100000 in
set_option maxHeartbeats 4000000 in
theorem ym_11_Do (w : World) (hG : Glob w) : Calls Tryz.prog 33 #[tyv 11 ⟨#[]⟩, .string ⟨#[68, 111]⟩] w (Mt w [7] 0 true) := by
  have hm : (⟨#[]⟩ : ByteArray).size ≤ maxLen := by unfold maxLen; decide
  have HV : Hid (∀ V, Below w.heap.size w V → Calls Tryz.prog 40 #[tyv 11 ⟨#[]⟩] V fun e w' => e = .returned (.bool true) ∧ Below V.heap.size V w') := Lib.hid fun V hV => (vB_k (k := 11) (by omega) (by omega) (by omega)) ▸ yvalid_any 11 ⟨#[]⟩ V hm (glob_below hG hV)
  have HS := Lib.hid (Sh.start w 11 ⟨#[]⟩)
  clear hm hG
  go_enter Tryz.func33, Tryz.ntmps33
  go_wp2_with fail
  refine (plain_any 1 _).mono ?_
  rintro e V0 ⟨rfl, hb⟩
  have hS0 := HS.out.keep hb
  clear hb
  go_wp2_with fail
  refine (plain_any 0 _).mono ?_
  rintro e V ⟨rfl, hb⟩
  have hS := hS0.keep hb
  have HS1 := Lib.hid hS
  have z1 := hS.z
  have z0 : w.heap.size < V.heap.size := by omega
  have a0 := hS.a0
  have a1 := hS.a1
  have n0 : ¬ w.heap.size = V.heap.size := by omega
  have n1 : ¬ w.heap.size = V.heap.size + 1 := by omega
  have y0 : w.heap.size < V.heap.size + 1 := by omega
  clear hb hS0 hS
  go_wp2_with fail
  refine (HV.out _ ((HS1.out.al _).al _).b).mono ?_
  rintro e V2 ⟨rfl, hb⟩
  obtain ⟨⟨x0, x1⟩, ⟨u0, u1⟩, ⟨r0, r1, rf0, rf1⟩, ⟨q0, q1⟩, qz, qv, zz, hB⟩ := mid_m HS1.out hb
  have HB := Lib.hid hB
  have qb : w.heap.size < V2.heap.size := by omega
  have qw : V.heap.size < V2.heap.size := by omega
  have e1 : ¬ w.heap.size + 1 = V2.heap.size := by omega
  have e2 : ¬ V.heap.size = w.heap.size + 1 := by omega
  have e3 : ¬ V.heap.size + 1 = w.heap.size + 1 := by omega
  clear hb hB a0 a1 z1 z0 n0 n1 y0 zz
  go_wp2
  go_region_with (go_at_call 36; (with_reducible refine (plain_any 7 _).mono ?_); rintro e V3 ⟨rfl, hb⟩; have t2 : w.heap.size + 1 < V2.heap.size := qz; have t3 := (hb.cell (p := ⟨V.heap.size + 1, 0, none⟩) (by show V.heap.size + 1 < V2.heap.size; omega)).trans u0; have t4 := (hb.cell (p := ⟨V.heap.size + 1, 1, none⟩) (by show V.heap.size + 1 < V2.heap.size; omega)).trans u1; have t5 := (hb.cell (p := ⟨w.heap.size + 1, 0, none⟩) (by show w.heap.size + 1 < V2.heap.size; omega)).trans r0; have t6 := (hb.cell (p := ⟨w.heap.size + 1, 1, none⟩) (by show w.heap.size + 1 < V2.heap.size; omega)).trans r1; have t7 := (hb.frozen (p := ⟨w.heap.size + 1, 0, none⟩) (by show w.heap.size + 1 < V2.heap.size; omega)).trans rf0; have t8 := (hb.frozen (p := ⟨w.heap.size + 1, 1, none⟩) (by show w.heap.size + 1 < V2.heap.size; omega)).trans rf1; have t9 : V2.heap.size ≤ V3.heap.size := hb.size; have ta : w.heap.size + 1 < V3.heap.size := (by omega); have tb : V.heap.size + 1 < V3.heap.size := (by omega); have tc : ¬ w.heap.size + 1 = V3.heap.size := (by omega); have td : ¬ V.heap.size + 1 = V3.heap.size := (by omega); have HB3 := Lib.hid (HB.out.drew.trans (hb.mono (by show w.heap.size ≤ V2.heap.size; omega))); clear hb t2 t9)
  all_goals
    go_wp2
    refine bodyPost_ret (v := .tuple #[.slice (some ⟨V3.heap.size, 0, none⟩) 1 1, tyv 0 ⟨#[]⟩, .bool true]) (by simp [results, Tryz.results33, go_sem, t3, t4, t5, t6, t7, t8, ta, tb, tc, td, e2, e3]) rfl ⟨_, rfl, .inr ⟨V3.heap.size, rfl, ?_, ?_⟩, ?_⟩
    · have := heap_alloc_new ((V3.setCell ⟨w.heap.size + 1, 0, none⟩ (.int .i64 0)).setCell ⟨w.heap.size + 1, 1, none⟩ (.string ⟨#[]⟩)) (.cells #[.int .i64 7, .string ⟨#[]⟩] 24)
      simp only [World.size_setCell] at this
      exact this
    · simp
    · repeat' (first | exact HB3.out | apply Below.setCell | apply Below.alloc | apply Below.drew)
      all_goals (try simp)
      all_goals (try omega)
end Go.Proofs.YtijhdlmnoinfiaaGreatDoor
