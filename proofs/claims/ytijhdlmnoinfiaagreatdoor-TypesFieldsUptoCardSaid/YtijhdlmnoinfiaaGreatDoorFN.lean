/-
  The walks of the program's Method where it finds one.
-/
import Derived.Test.YtijhdlmnoinfiaaGreatDoorFJ
import Derived.RegionTactic
import Derived.BigRegion
set_option linter.all false
namespace Go.Proofs.YtijhdlmnoinfiaaGreatDoor
open Go.RowKit T T.Fo Ty

/-- The cells of a row of types without names. -/
def tcs (ks : List Int) : List Value := ks.flatMap fun k => [.int .i64 k, .string ⟨#[]⟩]
/-- What Method leaves: a row of types without names, a type without a name, whether there is a method. -/
def Mt (w : World) (ks : List Int) (r : Int) (b : Bool) (e : Ending) (w' : World) : Prop :=
  ∃ A, e = .returned (.tuple #[.slice A ks.length ks.length, tyv r ⟨#[]⟩, .bool b]) ∧ (ks = [] ∨ ∃ g, A = some ⟨g, 0, none⟩ ∧ w'.heap[g]? = some (.cells (tcs ks).toArray 24 (0, 0)) ∧ g < w'.heap.size) ∧ Below w.heap.size w w'
theorem vB_k {k : Int} (h0 : 0 ≤ k) (h1 : k ≤ 12) (h4 : ¬ k = 4) : vB k ⟨#[]⟩ = true := by unfold vB; rw [if_neg h4, emp_nil]; simp [h0, h1]
/-- Behind the call of valid: what the walk reads. -/
theorem mid_m {w V V2 : World} {k : Int} {s : ByteArray} (hS : Sh w k s V) (hb : Below ((V.alloc (.cells #[.int .i64 1, .string ⟨#[]⟩] 24)).alloc (.cells #[.int .i64 0, .string ⟨#[]⟩] 24)).heap.size ((V.alloc (.cells #[.int .i64 1, .string ⟨#[]⟩] 24)).alloc (.cells #[.int .i64 0, .string ⟨#[]⟩] 24)) V2) :
    (V2.cell? ⟨V.heap.size, 0, none⟩ = some (.int .i64 1) ∧ V2.cell? ⟨V.heap.size, 1, none⟩ = some (.string ⟨#[]⟩)) ∧ (V2.cell? ⟨V.heap.size + 1, 0, none⟩ = some (.int .i64 0) ∧ V2.cell? ⟨V.heap.size + 1, 1, none⟩ = some (.string ⟨#[]⟩)) ∧
    (V2.cell? ⟨w.heap.size + 1, 0, none⟩ = some (.int .i64 0) ∧ V2.cell? ⟨w.heap.size + 1, 1, none⟩ = some (.string ⟨#[]⟩) ∧ V2.frozen? ⟨w.heap.size + 1, 0, none⟩ = false ∧ V2.frozen? ⟨w.heap.size + 1, 1, none⟩ = false) ∧
    (V2.cell? ⟨w.heap.size, 0, none⟩ = some (.int .i64 k) ∧ V2.cell? ⟨w.heap.size, 1, none⟩ = some (.string s)) ∧ w.heap.size + 1 < V2.heap.size ∧ V.heap.size + 1 < V2.heap.size ∧ w.heap.size + 1 < V.heap.size ∧ Below w.heap.size w V2 := by
  have hs : ((V.alloc (.cells #[.int .i64 1, .string ⟨#[]⟩] 24)).alloc (.cells #[.int .i64 0, .string ⟨#[]⟩] 24)).heap.size = V.heap.size + 1 + 1 := by simp
  have hz := hb.size
  have h7 : V2.heap[V.heap.size]? = some (.cells #[.int .i64 1, .string ⟨#[]⟩] 24 (0, 0)) := (hb.block _ (by omega)).trans ((Below.heap_alloc _ _ _ (by simp)).trans (heap_alloc_new V _))
  have h8 : V2.heap[V.heap.size + 1]? = some (.cells #[.int .i64 0, .string ⟨#[]⟩] 24 (0, 0)) := by
    refine (hb.block _ (by omega)).trans ?_
    have := heap_alloc_new (V.alloc (.cells #[.int .i64 1, .string ⟨#[]⟩] 24)) (.cells #[.int .i64 0, .string ⟨#[]⟩] 24)
    rw [World.size_alloc] at this
    exact this
  have hS2 := ((hS.al (.cells #[.int .i64 1, .string ⟨#[]⟩] 24)).al (.cells #[.int .i64 0, .string ⟨#[]⟩] 24)).keep hb
  obtain ⟨x0, x1, _⟩ := box2 h7
  obtain ⟨y0, y1, _⟩ := box2 h8
  obtain ⟨r0, r1, rf⟩ := box2 hS2.r
  exact ⟨⟨x0, x1⟩, ⟨y0, y1⟩, ⟨r0, r1, rf 0, rf 1⟩, ⟨hS2.a0, hS2.a1⟩, hS2.z, by omega, hS.z, hS2.b⟩
set_option maxRecDepth 100000 in
set_option maxHeartbeats 4000000 in
theorem ym_8_Lock (w : World) (hG : Glob w) : Calls Tryz.prog 33 #[tyv 8 ⟨#[]⟩, .string ⟨#[76, 111, 99, 107]⟩] w (Mt w [] 0 true) := by
  have hm : (⟨#[]⟩ : ByteArray).size ≤ maxLen := by unfold maxLen; decide
  have HV : Hid (∀ V, Below w.heap.size w V → Calls Tryz.prog 40 #[tyv 8 ⟨#[]⟩] V fun e w' => e = .returned (.bool true) ∧ Below V.heap.size V w') := Lib.hid fun V hV => (vB_k (k := 8) (by omega) (by omega) (by omega)) ▸ yvalid_any 8 ⟨#[]⟩ V hm (glob_below hG hV)
  have HS := Lib.hid (Sh.start w 8 ⟨#[]⟩)
  clear hm hG
  go_enter Tryz.func33, Tryz.ntmps33
  go_wp2_with fail
  refine (plain_any 1 _).mono ?_
  rintro e V0 ⟨rfl, hb⟩
  have hS0 := HS.out.keep hb
  clear hb
  go_wp2_with fail
  refine (plain_any 0 _).mono ?_
  rintro e V ⟨rfl, hb⟩
  have hS := hS0.keep hb
  have HS1 := Lib.hid hS
  have z1 := hS.z
  have z0 : w.heap.size < V.heap.size := by omega
  have a0 := hS.a0
  have a1 := hS.a1
  have n0 : ¬ w.heap.size = V.heap.size := by omega
  have n1 : ¬ w.heap.size = V.heap.size + 1 := by omega
  have y0 : w.heap.size < V.heap.size + 1 := by omega
  clear hb hS0 hS
  go_wp2_with fail
  refine (HV.out _ ((HS1.out.al _).al _).b).mono ?_
  rintro e V2 ⟨rfl, hb⟩
  obtain ⟨⟨x0, x1⟩, ⟨u0, u1⟩, ⟨r0, r1, rf0, rf1⟩, ⟨q0, q1⟩, qz, qv, zz, hB⟩ := mid_m HS1.out hb
  have HB := Lib.hid hB
  have qb : w.heap.size < V2.heap.size := by omega
  have qw : V.heap.size < V2.heap.size := by omega
  have e1 : ¬ w.heap.size + 1 = V2.heap.size := by omega
  have e2 : ¬ V.heap.size = w.heap.size + 1 := by omega
  have e3 : ¬ V.heap.size + 1 = w.heap.size + 1 := by omega
  clear hb hB a0 a1 z1 z0 n0 n1 y0 zz
  go_wp2
  go_region
  go_wp2
  refine bodyPost_ret (v := .tuple #[.slice none 0 0, tyv 0 ⟨#[]⟩, .bool true]) (by simp [results, Tryz.results33, go_sem, qz, qb, qv, qw, e1, e2, e3, r0, r1, rf0, rf1, x0, x1, u0, u1]) rfl ⟨none, rfl, .inl rfl, ?_⟩
  repeat' (first | exact HB.out | apply Below.setCell | apply Below.alloc | apply Below.drew)
  all_goals (try simp)
  all_goals (try omega)
set_option maxRecDepth 100000 in
set_option maxHeartbeats 4000000 in
theorem ym_8_Unlock (w : World) (hG : Glob w) : Calls Tryz.prog 33 #[tyv 8 ⟨#[]⟩, .string ⟨#[85, 110, 108, 111, 99, 107]⟩] w (Mt w [] 0 true) := by
  have hm : (⟨#[]⟩ : ByteArray).size ≤ maxLen := by unfold maxLen; decide
  have HV : Hid (∀ V, Below w.heap.size w V → Calls Tryz.prog 40 #[tyv 8 ⟨#[]⟩] V fun e w' => e = .returned (.bool true) ∧ Below V.heap.size V w') := Lib.hid fun V hV => (vB_k (k := 8) (by omega) (by omega) (by omega)) ▸ yvalid_any 8 ⟨#[]⟩ V hm (glob_below hG hV)
  have HS := Lib.hid (Sh.start w 8 ⟨#[]⟩)
  clear hm hG
  go_enter Tryz.func33, Tryz.ntmps33
  go_wp2_with fail
  refine (plain_any 1 _).mono ?_
  rintro e V0 ⟨rfl, hb⟩
  have hS0 := HS.out.keep hb
  clear hb
  go_wp2_with fail
  refine (plain_any 0 _).mono ?_
  rintro e V ⟨rfl, hb⟩
  have hS := hS0.keep hb
  have HS1 := Lib.hid hS
  have z1 := hS.z
  have z0 : w.heap.size < V.heap.size := by omega
  have a0 := hS.a0
  have a1 := hS.a1
  have n0 : ¬ w.heap.size = V.heap.size := by omega
  have n1 : ¬ w.heap.size = V.heap.size + 1 := by omega
  have y0 : w.heap.size < V.heap.size + 1 := by omega
  clear hb hS0 hS
  go_wp2_with fail
  refine (HV.out _ ((HS1.out.al _).al _).b).mono ?_
  rintro e V2 ⟨rfl, hb⟩
  obtain ⟨⟨x0, x1⟩, ⟨u0, u1⟩, ⟨r0, r1, rf0, rf1⟩, ⟨q0, q1⟩, qz, qv, zz, hB⟩ := mid_m HS1.out hb
  have HB := Lib.hid hB
  have qb : w.heap.size < V2.heap.size := by omega
  have qw : V.heap.size < V2.heap.size := by omega
  have e1 : ¬ w.heap.size + 1 = V2.heap.size := by omega
  have e2 : ¬ V.heap.size = w.heap.size + 1 := by omega
  have e3 : ¬ V.heap.size + 1 = w.heap.size + 1 := by omega
  clear hb hB a0 a1 z1 z0 n0 n1 y0 zz
  go_wp2
  go_region
  go_wp2
  refine bodyPost_ret (v := .tuple #[.slice none 0 0, tyv 0 ⟨#[]⟩, .bool true]) (by simp [results, Tryz.results33, go_sem, qz, qb, qv, qw, e1, e2, e3, r0, r1, rf0, rf1, x0, x1, u0, u1]) rfl ⟨none, rfl, .inl rfl, ?_⟩
  repeat' (first | exact HB.out | apply Below.setCell | apply Below.alloc | apply Below.drew)
  all_goals (try simp)
  all_goals (try omega)
set_option maxRecDepth 100000 in
set_option maxHeartbeats 4000000 in
theorem ym_9_Lock (w : World) (hG : Glob w) : Calls Tryz.prog 33 #[tyv 9 ⟨#[]⟩, .string ⟨#[76, 111, 99, 107]⟩] w (Mt w [] 0 true) := by
  have hm : (⟨#[]⟩ : ByteArray).size ≤ maxLen := by unfold maxLen; decide
  have HV : Hid (∀ V, Below w.heap.size w V → Calls Tryz.prog 40 #[tyv 9 ⟨#[]⟩] V fun e w' => e = .returned (.bool true) ∧ Below V.heap.size V w') := Lib.hid fun V hV => (vB_k (k := 9) (by omega) (by omega) (by omega)) ▸ yvalid_any 9 ⟨#[]⟩ V hm (glob_below hG hV)
  have HS := Lib.hid (Sh.start w 9 ⟨#[]⟩)
  clear hm hG
  go_enter Tryz.func33, Tryz.ntmps33
  go_wp2_with fail
  refine (plain_any 1 _).mono ?_
  rintro e V0 ⟨rfl, hb⟩
  have hS0 := HS.out.keep hb
  clear hb
  go_wp2_with fail
  refine (plain_any 0 _).mono ?_
  rintro e V ⟨rfl, hb⟩
  have hS := hS0.keep hb
  have HS1 := Lib.hid hS
  have z1 := hS.z
  have z0 : w.heap.size < V.heap.size := by omega
  have a0 := hS.a0
  have a1 := hS.a1
  have n0 : ¬ w.heap.size = V.heap.size := by omega
  have n1 : ¬ w.heap.size = V.heap.size + 1 := by omega
  have y0 : w.heap.size < V.heap.size + 1 := by omega
  clear hb hS0 hS
  go_wp2_with fail
  refine (HV.out _ ((HS1.out.al _).al _).b).mono ?_
  rintro e V2 ⟨rfl, hb⟩
  obtain ⟨⟨x0, x1⟩, ⟨u0, u1⟩, ⟨r0, r1, rf0, rf1⟩, ⟨q0, q1⟩, qz, qv, zz, hB⟩ := mid_m HS1.out hb
  have HB := Lib.hid hB
  have qb : w.heap.size < V2.heap.size := by omega
  have qw : V.heap.size < V2.heap.size := by omega
  have e1 : ¬ w.heap.size + 1 = V2.heap.size := by omega
  have e2 : ¬ V.heap.size = w.heap.size + 1 := by omega
  have e3 : ¬ V.heap.size + 1 = w.heap.size + 1 := by omega
  clear hb hB a0 a1 z1 z0 n0 n1 y0 zz
  go_wp2
  go_region
  go_wp2
  refine bodyPost_ret (v := .tuple #[.slice none 0 0, tyv 0 ⟨#[]⟩, .bool true]) (by simp [results, Tryz.results33, go_sem, qz, qb, qv, qw, e1, e2, e3, r0, r1, rf0, rf1, x0, x1, u0, u1]) rfl ⟨none, rfl, .inl rfl, ?_⟩
  repeat' (first | exact HB.out | apply Below.setCell | apply Below.alloc | apply Below.drew)
  all_goals (try simp)
  all_goals (try omega)
set_option maxRecDepth 100000 in
set_option maxHeartbeats 4000000 in
theorem ym_9_Unlock (w : World) (hG : Glob w) : Calls Tryz.prog 33 #[tyv 9 ⟨#[]⟩, .string ⟨#[85, 110, 108, 111, 99, 107]⟩] w (Mt w [] 0 true) := by
  have hm : (⟨#[]⟩ : ByteArray).size ≤ maxLen := by unfold maxLen; decide
  have HV : Hid (∀ V, Below w.heap.size w V → Calls Tryz.prog 40 #[tyv 9 ⟨#[]⟩] V fun e w' => e = .returned (.bool true) ∧ Below V.heap.size V w') := Lib.hid fun V hV => (vB_k (k := 9) (by omega) (by omega) (by omega)) ▸ yvalid_any 9 ⟨#[]⟩ V hm (glob_below hG hV)
  have HS := Lib.hid (Sh.start w 9 ⟨#[]⟩)
  clear hm hG
  go_enter Tryz.func33, Tryz.ntmps33
  go_wp2_with fail
  refine (plain_any 1 _).mono ?_
  rintro e V0 ⟨rfl, hb⟩
  have hS0 := HS.out.keep hb
  clear hb
  go_wp2_with fail
  refine (plain_any 0 _).mono ?_
  rintro e V ⟨rfl, hb⟩
  have hS := hS0.keep hb
  have HS1 := Lib.hid hS
  have z1 := hS.z
  have z0 : w.heap.size < V.heap.size := by omega
  have a0 := hS.a0
  have a1 := hS.a1
  have n0 : ¬ w.heap.size = V.heap.size := by omega
  have n1 : ¬ w.heap.size = V.heap.size + 1 := by omega
  have y0 : w.heap.size < V.heap.size + 1 := by omega
  clear hb hS0 hS
  go_wp2_with fail
  refine (HV.out _ ((HS1.out.al _).al _).b).mono ?_
  rintro e V2 ⟨rfl, hb⟩
  obtain ⟨⟨x0, x1⟩, ⟨u0, u1⟩, ⟨r0, r1, rf0, rf1⟩, ⟨q0, q1⟩, qz, qv, zz, hB⟩ := mid_m HS1.out hb
  have HB := Lib.hid hB
  have qb : w.heap.size < V2.heap.size := by omega
  have qw : V.heap.size < V2.heap.size := by omega
  have e1 : ¬ w.heap.size + 1 = V2.heap.size := by omega
  have e2 : ¬ V.heap.size = w.heap.size + 1 := by omega
  have e3 : ¬ V.heap.size + 1 = w.heap.size + 1 := by omega
  clear hb hB a0 a1 z1 z0 n0 n1 y0 zz
  go_wp2
  go_region
  go_wp2
  refine bodyPost_ret (v := .tuple #[.slice none 0 0, tyv 0 ⟨#[]⟩, .bool true]) (by simp [results, Tryz.results33, go_sem, qz, qb, qv, qw, e1, e2, e3, r0, r1, rf0, rf1, x0, x1, u0, u1]) rfl ⟨none, rfl, .inl rfl, ?_⟩
  repeat' (first | exact HB.out | apply Below.setCell | apply Below.alloc | apply Below.drew)
  all_goals (try simp)
  all_goals (try omega)
set_option maxRecDepth 100000 in
set_option maxHeartbeats 4000000 in
theorem ym_9_RLock (w : World) (hG : Glob w) : Calls Tryz.prog 33 #[tyv 9 ⟨#[]⟩, .string ⟨#[82, 76, 111, 99, 107]⟩] w (Mt w [] 0 true) := by
  have hm : (⟨#[]⟩ : ByteArray).size ≤ maxLen := by unfold maxLen; decide
  have HV : Hid (∀ V, Below w.heap.size w V → Calls Tryz.prog 40 #[tyv 9 ⟨#[]⟩] V fun e w' => e = .returned (.bool true) ∧ Below V.heap.size V w') := Lib.hid fun V hV => (vB_k (k := 9) (by omega) (by omega) (by omega)) ▸ yvalid_any 9 ⟨#[]⟩ V hm (glob_below hG hV)
  have HS := Lib.hid (Sh.start w 9 ⟨#[]⟩)
  clear hm hG
  go_enter Tryz.func33, Tryz.ntmps33
  go_wp2_with fail
  refine (plain_any 1 _).mono ?_
  rintro e V0 ⟨rfl, hb⟩
  have hS0 := HS.out.keep hb
  clear hb
  go_wp2_with fail
  refine (plain_any 0 _).mono ?_
  rintro e V ⟨rfl, hb⟩
  have hS := hS0.keep hb
  have HS1 := Lib.hid hS
  have z1 := hS.z
  have z0 : w.heap.size < V.heap.size := by omega
  have a0 := hS.a0
  have a1 := hS.a1
  have n0 : ¬ w.heap.size = V.heap.size := by omega
  have n1 : ¬ w.heap.size = V.heap.size + 1 := by omega
  have y0 : w.heap.size < V.heap.size + 1 := by omega
  clear hb hS0 hS
  go_wp2_with fail
  refine (HV.out _ ((HS1.out.al _).al _).b).mono ?_
  rintro e V2 ⟨rfl, hb⟩
  obtain ⟨⟨x0, x1⟩, ⟨u0, u1⟩, ⟨r0, r1, rf0, rf1⟩, ⟨q0, q1⟩, qz, qv, zz, hB⟩ := mid_m HS1.out hb
  have HB := Lib.hid hB
  have qb : w.heap.size < V2.heap.size := by omega
  have qw : V.heap.size < V2.heap.size := by omega
  have e1 : ¬ w.heap.size + 1 = V2.heap.size := by omega
  have e2 : ¬ V.heap.size = w.heap.size + 1 := by omega
  have e3 : ¬ V.heap.size + 1 = w.heap.size + 1 := by omega
  clear hb hB a0 a1 z1 z0 n0 n1 y0 zz
  go_wp2
  go_region
  go_wp2
  refine bodyPost_ret (v := .tuple #[.slice none 0 0, tyv 0 ⟨#[]⟩, .bool true]) (by simp [results, Tryz.results33, go_sem, qz, qb, qv, qw, e1, e2, e3, r0, r1, rf0, rf1, x0, x1, u0, u1]) rfl ⟨none, rfl, .inl rfl, ?_⟩
  repeat' (first | exact HB.out | apply Below.setCell | apply Below.alloc | apply Below.drew)
  all_goals (try simp)
  all_goals (try omega)
set_option maxRecDepth 100000 in
set_option maxHeartbeats 4000000 in
theorem ym_9_RUnlock (w : World) (hG : Glob w) : Calls Tryz.prog 33 #[tyv 9 ⟨#[]⟩, .string ⟨#[82, 85, 110, 108, 111, 99, 107]⟩] w (Mt w [] 0 true) := by
  have hm : (⟨#[]⟩ : ByteArray).size ≤ maxLen := by unfold maxLen; decide
  have HV : Hid (∀ V, Below w.heap.size w V → Calls Tryz.prog 40 #[tyv 9 ⟨#[]⟩] V fun e w' => e = .returned (.bool true) ∧ Below V.heap.size V w') := Lib.hid fun V hV => (vB_k (k := 9) (by omega) (by omega) (by omega)) ▸ yvalid_any 9 ⟨#[]⟩ V hm (glob_below hG hV)
  have HS := Lib.hid (Sh.start w 9 ⟨#[]⟩)
  clear hm hG
  go_enter Tryz.func33, Tryz.ntmps33
  go_wp2_with fail
  refine (plain_any 1 _).mono ?_
  rintro e V0 ⟨rfl, hb⟩
  have hS0 := HS.out.keep hb
  clear hb
  go_wp2_with fail
  refine (plain_any 0 _).mono ?_
  rintro e V ⟨rfl, hb⟩
  have hS := hS0.keep hb
  have HS1 := Lib.hid hS
  have z1 := hS.z
  have z0 : w.heap.size < V.heap.size := by omega
  have a0 := hS.a0
  have a1 := hS.a1
  have n0 : ¬ w.heap.size = V.heap.size := by omega
  have n1 : ¬ w.heap.size = V.heap.size + 1 := by omega
  have y0 : w.heap.size < V.heap.size + 1 := by omega
  clear hb hS0 hS
  go_wp2_with fail
  refine (HV.out _ ((HS1.out.al _).al _).b).mono ?_
  rintro e V2 ⟨rfl, hb⟩
  obtain ⟨⟨x0, x1⟩, ⟨u0, u1⟩, ⟨r0, r1, rf0, rf1⟩, ⟨q0, q1⟩, qz, qv, zz, hB⟩ := mid_m HS1.out hb
  have HB := Lib.hid hB
  have qb : w.heap.size < V2.heap.size := by omega
  have qw : V.heap.size < V2.heap.size := by omega
  have e1 : ¬ w.heap.size + 1 = V2.heap.size := by omega
  have e2 : ¬ V.heap.size = w.heap.size + 1 := by omega
  have e3 : ¬ V.heap.size + 1 = w.heap.size + 1 := by omega
  clear hb hB a0 a1 z1 z0 n0 n1 y0 zz
  go_wp2
  go_region
  go_wp2
  refine bodyPost_ret (v := .tuple #[.slice none 0 0, tyv 0 ⟨#[]⟩, .bool true]) (by simp [results, Tryz.results33, go_sem, qz, qb, qv, qw, e1, e2, e3, r0, r1, rf0, rf1, x0, x1, u0, u1]) rfl ⟨none, rfl, .inl rfl, ?_⟩
  repeat' (first | exact HB.out | apply Below.setCell | apply Below.alloc | apply Below.drew)
  all_goals (try simp)
  all_goals (try omega)
set_option maxRecDepth 100000 in
set_option maxHeartbeats 4000000 in
theorem ym_10_Done (w : World) (hG : Glob w) : Calls Tryz.prog 33 #[tyv 10 ⟨#[]⟩, .string ⟨#[68, 111, 110, 101]⟩] w (Mt w [] 0 true) := by
  have hm : (⟨#[]⟩ : ByteArray).size ≤ maxLen := by unfold maxLen; decide
  have HV : Hid (∀ V, Below w.heap.size w V → Calls Tryz.prog 40 #[tyv 10 ⟨#[]⟩] V fun e w' => e = .returned (.bool true) ∧ Below V.heap.size V w') := Lib.hid fun V hV => (vB_k (k := 10) (by omega) (by omega) (by omega)) ▸ yvalid_any 10 ⟨#[]⟩ V hm (glob_below hG hV)
  have HS := Lib.hid (Sh.start w 10 ⟨#[]⟩)
  clear hm hG
  go_enter Tryz.func33, Tryz.ntmps33
  go_wp2_with fail
  refine (plain_any 1 _).mono ?_
  rintro e V0 ⟨rfl, hb⟩
  have hS0 := HS.out.keep hb
  clear hb
  go_wp2_with fail
  refine (plain_any 0 _).mono ?_
  rintro e V ⟨rfl, hb⟩
  have hS := hS0.keep hb
  have HS1 := Lib.hid hS
  have z1 := hS.z
  have z0 : w.heap.size < V.heap.size := by omega
  have a0 := hS.a0
  have a1 := hS.a1
  have n0 : ¬ w.heap.size = V.heap.size := by omega
  have n1 : ¬ w.heap.size = V.heap.size + 1 := by omega
  have y0 : w.heap.size < V.heap.size + 1 := by omega
  clear hb hS0 hS
  go_wp2_with fail
  refine (HV.out _ ((HS1.out.al _).al _).b).mono ?_
  rintro e V2 ⟨rfl, hb⟩
  obtain ⟨⟨x0, x1⟩, ⟨u0, u1⟩, ⟨r0, r1, rf0, rf1⟩, ⟨q0, q1⟩, qz, qv, zz, hB⟩ := mid_m HS1.out hb
  have HB := Lib.hid hB
  have qb : w.heap.size < V2.heap.size := by omega
  have qw : V.heap.size < V2.heap.size := by omega
  have e1 : ¬ w.heap.size + 1 = V2.heap.size := by omega
  have e2 : ¬ V.heap.size = w.heap.size + 1 := by omega
  have e3 : ¬ V.heap.size + 1 = w.heap.size + 1 := by omega
  clear hb hB a0 a1 z1 z0 n0 n1 y0 zz
  go_wp2
  go_region
  go_wp2
  refine bodyPost_ret (v := .tuple #[.slice none 0 0, tyv 0 ⟨#[]⟩, .bool true]) (by simp [results, Tryz.results33, go_sem, qz, qb, qv, qw, e1, e2, e3, r0, r1, rf0, rf1, x0, x1, u0, u1]) rfl ⟨none, rfl, .inl rfl, ?_⟩
  repeat' (first | exact HB.out | apply Below.setCell | apply Below.alloc | apply Below.drew)
  all_goals (try simp)
  all_goals (try omega)
set_option maxRecDepth 100000 in
set_option maxHeartbeats 4000000 in
theorem ym_10_Wait (w : World) (hG : Glob w) : Calls Tryz.prog 33 #[tyv 10 ⟨#[]⟩, .string ⟨#[87, 97, 105, 116]⟩] w (Mt w [] 0 true) := by
  have hm : (⟨#[]⟩ : ByteArray).size ≤ maxLen := by unfold maxLen; decide
  have HV : Hid (∀ V, Below w.heap.size w V → Calls Tryz.prog 40 #[tyv 10 ⟨#[]⟩] V fun e w' => e = .returned (.bool true) ∧ Below V.heap.size V w') := Lib.hid fun V hV => (vB_k (k := 10) (by omega) (by omega) (by omega)) ▸ yvalid_any 10 ⟨#[]⟩ V hm (glob_below hG hV)
  have HS := Lib.hid (Sh.start w 10 ⟨#[]⟩)
  clear hm hG
  go_enter Tryz.func33, Tryz.ntmps33
  go_wp2_with fail
  refine (plain_any 1 _).mono ?_
  rintro e V0 ⟨rfl, hb⟩
  have hS0 := HS.out.keep hb
  clear hb
  go_wp2_with fail
  refine (plain_any 0 _).mono ?_
  rintro e V ⟨rfl, hb⟩
  have hS := hS0.keep hb
  have HS1 := Lib.hid hS
  have z1 := hS.z
  have z0 : w.heap.size < V.heap.size := by omega
  have a0 := hS.a0
  have a1 := hS.a1
  have n0 : ¬ w.heap.size = V.heap.size := by omega
  have n1 : ¬ w.heap.size = V.heap.size + 1 := by omega
  have y0 : w.heap.size < V.heap.size + 1 := by omega
  clear hb hS0 hS
  go_wp2_with fail
  refine (HV.out _ ((HS1.out.al _).al _).b).mono ?_
  rintro e V2 ⟨rfl, hb⟩
  obtain ⟨⟨x0, x1⟩, ⟨u0, u1⟩, ⟨r0, r1, rf0, rf1⟩, ⟨q0, q1⟩, qz, qv, zz, hB⟩ := mid_m HS1.out hb
  have HB := Lib.hid hB
  have qb : w.heap.size < V2.heap.size := by omega
  have qw : V.heap.size < V2.heap.size := by omega
  have e1 : ¬ w.heap.size + 1 = V2.heap.size := by omega
  have e2 : ¬ V.heap.size = w.heap.size + 1 := by omega
  have e3 : ¬ V.heap.size + 1 = w.heap.size + 1 := by omega
  clear hb hB a0 a1 z1 z0 n0 n1 y0 zz
  go_wp2
  go_region
  go_wp2
  refine bodyPost_ret (v := .tuple #[.slice none 0 0, tyv 0 ⟨#[]⟩, .bool true]) (by simp [results, Tryz.results33, go_sem, qz, qb, qv, qw, e1, e2, e3, r0, r1, rf0, rf1, x0, x1, u0, u1]) rfl ⟨none, rfl, .inl rfl, ?_⟩
  repeat' (first | exact HB.out | apply Below.setCell | apply Below.alloc | apply Below.drew)
  all_goals (try simp)
  all_goals (try omega)
set_option maxRecDepth 100000 in
set_option maxHeartbeats 4000000 in
theorem ym_10_Add (w : World) (hG : Glob w) : Calls Tryz.prog 33 #[tyv 10 ⟨#[]⟩, .string ⟨#[65, 100, 100]⟩] w (Mt w [1] 0 true) := by
  have hm : (⟨#[]⟩ : ByteArray).size ≤ maxLen := by unfold maxLen; decide
  have HV : Hid (∀ V, Below w.heap.size w V → Calls Tryz.prog 40 #[tyv 10 ⟨#[]⟩] V fun e w' => e = .returned (.bool true) ∧ Below V.heap.size V w') := Lib.hid fun V hV => (vB_k (k := 10) (by omega) (by omega) (by omega)) ▸ yvalid_any 10 ⟨#[]⟩ V hm (glob_below hG hV)
  have HS := Lib.hid (Sh.start w 10 ⟨#[]⟩)
  clear hm hG
  go_enter Tryz.func33, Tryz.ntmps33
  go_wp2_with fail
  refine (plain_any 1 _).mono ?_
  rintro e V0 ⟨rfl, hb⟩
  have hS0 := HS.out.keep hb
  clear hb
  go_wp2_with fail
  refine (plain_any 0 _).mono ?_
  rintro e V ⟨rfl, hb⟩
  have hS := hS0.keep hb
  have HS1 := Lib.hid hS
  have z1 := hS.z
  have z0 : w.heap.size < V.heap.size := by omega
  have a0 := hS.a0
  have a1 := hS.a1
  have n0 : ¬ w.heap.size = V.heap.size := by omega
  have n1 : ¬ w.heap.size = V.heap.size + 1 := by omega
  have y0 : w.heap.size < V.heap.size + 1 := by omega
  clear hb hS0 hS
  go_wp2_with fail
  refine (HV.out _ ((HS1.out.al _).al _).b).mono ?_
  rintro e V2 ⟨rfl, hb⟩
  obtain ⟨⟨x0, x1⟩, ⟨u0, u1⟩, ⟨r0, r1, rf0, rf1⟩, ⟨q0, q1⟩, qz, qv, zz, hB⟩ := mid_m HS1.out hb
  have HB := Lib.hid hB
  have qb : w.heap.size < V2.heap.size := by omega
  have qw : V.heap.size < V2.heap.size := by omega
  have e1 : ¬ w.heap.size + 1 = V2.heap.size := by omega
  have e2 : ¬ V.heap.size = w.heap.size + 1 := by omega
  have e3 : ¬ V.heap.size + 1 = w.heap.size + 1 := by omega
  clear hb hB a0 a1 z1 z0 n0 n1 y0 zz
  go_wp2
  go_region
  go_wp2
  refine bodyPost_ret (v := .tuple #[.slice (some ⟨V2.heap.size, 0, none⟩) 1 1, tyv 0 ⟨#[]⟩, .bool true]) (by simp [results, Tryz.results33, go_sem, qz, qb, qv, qw, e1, e2, e3, r0, r1, rf0, rf1, x0, x1, u0, u1]) rfl ⟨_, rfl, .inr ⟨V2.heap.size, rfl, ?_, ?_⟩, ?_⟩
  · have := heap_alloc_new ((V2.setCell ⟨w.heap.size + 1, 0, none⟩ (.int .i64 0)).setCell ⟨w.heap.size + 1, 1, none⟩ (.string ⟨#[]⟩)) (.cells #[.int .i64 1, .string ⟨#[]⟩] 24)
    simp only [World.size_setCell] at this
    exact this
  · simp
  · repeat' (first | exact HB.out | apply Below.setCell | apply Below.alloc | apply Below.drew)
    all_goals (try simp)
    all_goals (try omega)
set_option maxRecDepth 100000 in
set_option maxHeartbeats 4000000 in
theorem ym_12_Store (w : World) (hG : Glob w) : Calls Tryz.prog 33 #[tyv 12 ⟨#[]⟩, .string ⟨#[83, 116, 111, 114, 101]⟩] w (Mt w [1] 0 true) := by
  have hm : (⟨#[]⟩ : ByteArray).size ≤ maxLen := by unfold maxLen; decide
  have HV : Hid (∀ V, Below w.heap.size w V → Calls Tryz.prog 40 #[tyv 12 ⟨#[]⟩] V fun e w' => e = .returned (.bool true) ∧ Below V.heap.size V w') := Lib.hid fun V hV => (vB_k (k := 12) (by omega) (by omega) (by omega)) ▸ yvalid_any 12 ⟨#[]⟩ V hm (glob_below hG hV)
  have HS := Lib.hid (Sh.start w 12 ⟨#[]⟩)
  clear hm hG
  go_enter Tryz.func33, Tryz.ntmps33
  go_wp2_with fail
  refine (plain_any 1 _).mono ?_
  rintro e V0 ⟨rfl, hb⟩
  have hS0 := HS.out.keep hb
  clear hb
  go_wp2_with fail
  refine (plain_any 0 _).mono ?_
  rintro e V ⟨rfl, hb⟩
  have hS := hS0.keep hb
  have HS1 := Lib.hid hS
  have z1 := hS.z
  have z0 : w.heap.size < V.heap.size := by omega
  have a0 := hS.a0
  have a1 := hS.a1
  have n0 : ¬ w.heap.size = V.heap.size := by omega
  have n1 : ¬ w.heap.size = V.heap.size + 1 := by omega
  have y0 : w.heap.size < V.heap.size + 1 := by omega
  clear hb hS0 hS
  go_wp2_with fail
  refine (HV.out _ ((HS1.out.al _).al _).b).mono ?_
  rintro e V2 ⟨rfl, hb⟩
  obtain ⟨⟨x0, x1⟩, ⟨u0, u1⟩, ⟨r0, r1, rf0, rf1⟩, ⟨q0, q1⟩, qz, qv, zz, hB⟩ := mid_m HS1.out hb
  have HB := Lib.hid hB
  have qb : w.heap.size < V2.heap.size := by omega
  have qw : V.heap.size < V2.heap.size := by omega
  have e1 : ¬ w.heap.size + 1 = V2.heap.size := by omega
  have e2 : ¬ V.heap.size = w.heap.size + 1 := by omega
  have e3 : ¬ V.heap.size + 1 = w.heap.size + 1 := by omega
  clear hb hB a0 a1 z1 z0 n0 n1 y0 zz
  go_wp2
  go_region
  go_wp2
  refine bodyPost_ret (v := .tuple #[.slice (some ⟨V2.heap.size, 0, none⟩) 1 1, tyv 0 ⟨#[]⟩, .bool true]) (by simp [results, Tryz.results33, go_sem, qz, qb, qv, qw, e1, e2, e3, r0, r1, rf0, rf1, x0, x1, u0, u1]) rfl ⟨_, rfl, .inr ⟨V2.heap.size, rfl, ?_, ?_⟩, ?_⟩
  · have := heap_alloc_new ((V2.setCell ⟨w.heap.size + 1, 0, none⟩ (.int .i64 0)).setCell ⟨w.heap.size + 1, 1, none⟩ (.string ⟨#[]⟩)) (.cells #[.int .i64 1, .string ⟨#[]⟩] 24)
    simp only [World.size_setCell] at this
    exact this
  · simp
  · repeat' (first | exact HB.out | apply Below.setCell | apply Below.alloc | apply Below.drew)
    all_goals (try simp)
    all_goals (try omega)
set_option maxRecDepth 100000 in
set_option maxHeartbeats 4000000 in
theorem ym_12_Load (w : World) (hG : Glob w) : Calls Tryz.prog 33 #[tyv 12 ⟨#[]⟩, .string ⟨#[76, 111, 97, 100]⟩] w (Mt w [] 1 true) := by
  have hm : (⟨#[]⟩ : ByteArray).size ≤ maxLen := by unfold maxLen; decide
  have HV : Hid (∀ V, Below w.heap.size w V → Calls Tryz.prog 40 #[tyv 12 ⟨#[]⟩] V fun e w' => e = .returned (.bool true) ∧ Below V.heap.size V w') := Lib.hid fun V hV => (vB_k (k := 12) (by omega) (by omega) (by omega)) ▸ yvalid_any 12 ⟨#[]⟩ V hm (glob_below hG hV)
  have HS := Lib.hid (Sh.start w 12 ⟨#[]⟩)
  clear hm hG
  go_enter Tryz.func33, Tryz.ntmps33
  go_wp2_with fail
  refine (plain_any 1 _).mono ?_
  rintro e V0 ⟨rfl, hb⟩
  have hS0 := HS.out.keep hb
  clear hb
  go_wp2_with fail
  refine (plain_any 0 _).mono ?_
  rintro e V ⟨rfl, hb⟩
  have hS := hS0.keep hb
  have HS1 := Lib.hid hS
  have z1 := hS.z
  have z0 : w.heap.size < V.heap.size := by omega
  have a0 := hS.a0
  have a1 := hS.a1
  have n0 : ¬ w.heap.size = V.heap.size := by omega
  have n1 : ¬ w.heap.size = V.heap.size + 1 := by omega
  have y0 : w.heap.size < V.heap.size + 1 := by omega
  clear hb hS0 hS
  go_wp2_with fail
  refine (HV.out _ ((HS1.out.al _).al _).b).mono ?_
  rintro e V2 ⟨rfl, hb⟩
  obtain ⟨⟨x0, x1⟩, ⟨u0, u1⟩, ⟨r0, r1, rf0, rf1⟩, ⟨q0, q1⟩, qz, qv, zz, hB⟩ := mid_m HS1.out hb
  have HB := Lib.hid hB
  have qb : w.heap.size < V2.heap.size := by omega
  have qw : V.heap.size < V2.heap.size := by omega
  have e1 : ¬ w.heap.size + 1 = V2.heap.size := by omega
  have e2 : ¬ V.heap.size = w.heap.size + 1 := by omega
  have e3 : ¬ V.heap.size + 1 = w.heap.size + 1 := by omega
  clear hb hB a0 a1 z1 z0 n0 n1 y0 zz
  go_wp2
  go_region
  go_wp2
  refine bodyPost_ret (v := .tuple #[.slice none 0 0, tyv 1 ⟨#[]⟩, .bool true]) (by simp [results, Tryz.results33, go_sem, qz, qb, qv, qw, e1, e2, e3, r0, r1, rf0, rf1, x0, x1, u0, u1]) rfl ⟨none, rfl, .inl rfl, ?_⟩
  repeat' (first | exact HB.out | apply Below.setCell | apply Below.alloc | apply Below.drew)
  all_goals (try simp)
  all_goals (try omega)
set_option maxRecDepth 100000 in
set_option maxHeartbeats 4000000 in
theorem ym_12_Add (w : World) (hG : Glob w) : Calls Tryz.prog 33 #[tyv 12 ⟨#[]⟩, .string ⟨#[65, 100, 100]⟩] w (Mt w [1] 1 true) := by
  have hm : (⟨#[]⟩ : ByteArray).size ≤ maxLen := by unfold maxLen; decide
  have HV : Hid (∀ V, Below w.heap.size w V → Calls Tryz.prog 40 #[tyv 12 ⟨#[]⟩] V fun e w' => e = .returned (.bool true) ∧ Below V.heap.size V w') := Lib.hid fun V hV => (vB_k (k := 12) (by omega) (by omega) (by omega)) ▸ yvalid_any 12 ⟨#[]⟩ V hm (glob_below hG hV)
  have HS := Lib.hid (Sh.start w 12 ⟨#[]⟩)
  clear hm hG
  go_enter Tryz.func33, Tryz.ntmps33
  go_wp2_with fail
  refine (plain_any 1 _).mono ?_
  rintro e V0 ⟨rfl, hb⟩
  have hS0 := HS.out.keep hb
  clear hb
  go_wp2_with fail
  refine (plain_any 0 _).mono ?_
  rintro e V ⟨rfl, hb⟩
  have hS := hS0.keep hb
  have HS1 := Lib.hid hS
  have z1 := hS.z
  have z0 : w.heap.size < V.heap.size := by omega
  have a0 := hS.a0
  have a1 := hS.a1
  have n0 : ¬ w.heap.size = V.heap.size := by omega
  have n1 : ¬ w.heap.size = V.heap.size + 1 := by omega
  have y0 : w.heap.size < V.heap.size + 1 := by omega
  clear hb hS0 hS
  go_wp2_with fail
  refine (HV.out _ ((HS1.out.al _).al _).b).mono ?_
  rintro e V2 ⟨rfl, hb⟩
  obtain ⟨⟨x0, x1⟩, ⟨u0, u1⟩, ⟨r0, r1, rf0, rf1⟩, ⟨q0, q1⟩, qz, qv, zz, hB⟩ := mid_m HS1.out hb
  have HB := Lib.hid hB
  have qb : w.heap.size < V2.heap.size := by omega
  have qw : V.heap.size < V2.heap.size := by omega
  have e1 : ¬ w.heap.size + 1 = V2.heap.size := by omega
  have e2 : ¬ V.heap.size = w.heap.size + 1 := by omega
  have e3 : ¬ V.heap.size + 1 = w.heap.size + 1 := by omega
  clear hb hB a0 a1 z1 z0 n0 n1 y0 zz
  go_wp2
  go_region
  go_wp2
  refine bodyPost_ret (v := .tuple #[.slice (some ⟨V2.heap.size, 0, none⟩) 1 1, tyv 1 ⟨#[]⟩, .bool true]) (by simp [results, Tryz.results33, go_sem, qz, qb, qv, qw, e1, e2, e3, r0, r1, rf0, rf1, x0, x1, u0, u1]) rfl ⟨_, rfl, .inr ⟨V2.heap.size, rfl, ?_, ?_⟩, ?_⟩
  · have := heap_alloc_new ((V2.setCell ⟨w.heap.size + 1, 0, none⟩ (.int .i64 1)).setCell ⟨w.heap.size + 1, 1, none⟩ (.string ⟨#[]⟩)) (.cells #[.int .i64 1, .string ⟨#[]⟩] 24)
    simp only [World.size_setCell] at this
    exact this
  · simp
  · repeat' (first | exact HB.out | apply Below.setCell | apply Below.alloc | apply Below.drew)
    all_goals (try simp)
    all_goals (try omega)
end Go.Proofs.YtijhdlmnoinfiaaGreatDoor
