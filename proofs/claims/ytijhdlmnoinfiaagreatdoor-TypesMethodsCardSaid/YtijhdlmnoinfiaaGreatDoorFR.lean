/-
  The walks of the specification's Method.
-/
import Derived.Test.YtijhdlmnoinfiaaGreatDoorFN
import Derived.RegionTactic
import Derived.BigRegion
set_option linter.all false
namespace Go.Proofs.YtijhdlmnoinfiaaGreatDoor
open Go.RowKit T T.Fo Ty
theorem heap_alloc_at {W : World} {o : Obj} {n : Nat} (h : n = W.heap.size) : (W.alloc o).heap[n]? = some o := by subst h; exact heap_alloc_new W o
set_option maxRecDepth 100000 in
set_option maxHeartbeats 4000000 in
theorem rm_8_Lock (w : World) : Calls Tryz.prog 34 #[tyv 8 ⟨#[]⟩, .string ⟨#[76, 111, 99, 107]⟩] w (Mt w [] 0 true) := by
  have hm : (⟨#[]⟩ : ByteArray).size ≤ maxLen := by unfold maxLen; decide
  have HV : Hid (∀ V, Calls Tryz.prog 22 #[tyv 8 ⟨#[]⟩] V fun e w' => e = .returned (.bool true) ∧ Below V.heap.size V w') := Lib.hid fun V => (vB_k (k := 8) (by omega) (by omega) (by omega)) ▸ rvalid_any 8 ⟨#[]⟩ V hm
  have HS := Lib.hid (Sh.start w 8 ⟨#[]⟩)
  clear hm
  go_enter Tryz.func34, Tryz.ntmps34
  go_wp2_with fail
  refine (HV.out _).mono ?_
  rintro e V ⟨rfl, hb⟩
  have hS := HS.out.keep hb
  obtain ⟨r0, r1, rf⟩ := box2 hS.r
  have rf0 := rf 0
  have rf1 := rf 1
  have qz := hS.z
  have q0 := hS.a0
  have q1 := hS.a1
  have qb : w.heap.size < V.heap.size := by omega
  have HB := Lib.hid hS.b
  have e1 : ¬ w.heap.size + 1 = V.heap.size := by omega
  have e2 : ¬ w.heap.size + 1 = V.heap.size + 1 := by omega
  have e3 : ¬ w.heap.size + 1 = V.heap.size + 1 + 1 := by omega
  have e4 : ¬ V.heap.size = w.heap.size + 1 := by omega
  have e5 : ¬ V.heap.size + 1 = w.heap.size + 1 := by omega
  have e6 : ¬ V.heap.size + 1 + 1 = w.heap.size + 1 := by omega
  have e7 : ¬ w.heap.size = V.heap.size := by omega
  have e8 : ¬ w.heap.size = V.heap.size + 1 := by omega
  have e9 : ¬ w.heap.size = V.heap.size + 1 + 1 := by omega
  have f1 : w.heap.size + 1 < V.heap.size + 1 := by omega
  have f2 : w.heap.size + 1 < V.heap.size + 1 + 1 := by omega
  have f3 : w.heap.size < V.heap.size + 1 := by omega
  have f4 : w.heap.size < V.heap.size + 1 + 1 := by omega
  clear hb hS rf
  go_wp2
  go_region
  go_wp2
  refine bodyPost_ret (v := .tuple #[.slice none 0 0, tyv 0 ⟨#[]⟩, .bool true]) (by simp [results, Tryz.results34, go_sem, qz, qb, e1, e2, e3, e4, e5, e6, e7, e8, e9, f1, f2, f3, f4, r0, r1, rf0, rf1, q0, q1]) rfl ⟨none, rfl, .inl rfl, ?_⟩
  repeat' (first | exact HB.out | apply Below.setCell | apply Below.alloc | apply Below.drew)
  all_goals (try simp)
  all_goals (try omega)
set_option maxRecDepth 100000 in
set_option maxHeartbeats 4000000 in
theorem rm_8_Unlock (w : World) : Calls Tryz.prog 34 #[tyv 8 ⟨#[]⟩, .string ⟨#[85, 110, 108, 111, 99, 107]⟩] w (Mt w [] 0 true) := by
  have hm : (⟨#[]⟩ : ByteArray).size ≤ maxLen := by unfold maxLen; decide
  have HV : Hid (∀ V, Calls Tryz.prog 22 #[tyv 8 ⟨#[]⟩] V fun e w' => e = .returned (.bool true) ∧ Below V.heap.size V w') := Lib.hid fun V => (vB_k (k := 8) (by omega) (by omega) (by omega)) ▸ rvalid_any 8 ⟨#[]⟩ V hm
  have HS := Lib.hid (Sh.start w 8 ⟨#[]⟩)
  clear hm
  go_enter Tryz.func34, Tryz.ntmps34
  go_wp2_with fail
  refine (HV.out _).mono ?_
  rintro e V ⟨rfl, hb⟩
  have hS := HS.out.keep hb
  obtain ⟨r0, r1, rf⟩ := box2 hS.r
  have rf0 := rf 0
  have rf1 := rf 1
  have qz := hS.z
  have q0 := hS.a0
  have q1 := hS.a1
  have qb : w.heap.size < V.heap.size := by omega
  have HB := Lib.hid hS.b
  have e1 : ¬ w.heap.size + 1 = V.heap.size := by omega
  have e2 : ¬ w.heap.size + 1 = V.heap.size + 1 := by omega
  have e3 : ¬ w.heap.size + 1 = V.heap.size + 1 + 1 := by omega
  have e4 : ¬ V.heap.size = w.heap.size + 1 := by omega
  have e5 : ¬ V.heap.size + 1 = w.heap.size + 1 := by omega
  have e6 : ¬ V.heap.size + 1 + 1 = w.heap.size + 1 := by omega
  have e7 : ¬ w.heap.size = V.heap.size := by omega
  have e8 : ¬ w.heap.size = V.heap.size + 1 := by omega
  have e9 : ¬ w.heap.size = V.heap.size + 1 + 1 := by omega
  have f1 : w.heap.size + 1 < V.heap.size + 1 := by omega
  have f2 : w.heap.size + 1 < V.heap.size + 1 + 1 := by omega
  have f3 : w.heap.size < V.heap.size + 1 := by omega
  have f4 : w.heap.size < V.heap.size + 1 + 1 := by omega
  clear hb hS rf
  go_wp2
  go_region
  go_wp2
  refine bodyPost_ret (v := .tuple #[.slice none 0 0, tyv 0 ⟨#[]⟩, .bool true]) (by simp [results, Tryz.results34, go_sem, qz, qb, e1, e2, e3, e4, e5, e6, e7, e8, e9, f1, f2, f3, f4, r0, r1, rf0, rf1, q0, q1]) rfl ⟨none, rfl, .inl rfl, ?_⟩
  repeat' (first | exact HB.out | apply Below.setCell | apply Below.alloc | apply Below.drew)
  all_goals (try simp)
  all_goals (try omega)
set_option maxRecDepth 100000 in
set_option maxHeartbeats 4000000 in
theorem rm_9_Lock (w : World) : Calls Tryz.prog 34 #[tyv 9 ⟨#[]⟩, .string ⟨#[76, 111, 99, 107]⟩] w (Mt w [] 0 true) := by
  have hm : (⟨#[]⟩ : ByteArray).size ≤ maxLen := by unfold maxLen; decide
  have HV : Hid (∀ V, Calls Tryz.prog 22 #[tyv 9 ⟨#[]⟩] V fun e w' => e = .returned (.bool true) ∧ Below V.heap.size V w') := Lib.hid fun V => (vB_k (k := 9) (by omega) (by omega) (by omega)) ▸ rvalid_any 9 ⟨#[]⟩ V hm
  have HS := Lib.hid (Sh.start w 9 ⟨#[]⟩)
  clear hm
  go_enter Tryz.func34, Tryz.ntmps34
  go_wp2_with fail
  refine (HV.out _).mono ?_
  rintro e V ⟨rfl, hb⟩
  have hS := HS.out.keep hb
  obtain ⟨r0, r1, rf⟩ := box2 hS.r
  have rf0 := rf 0
  have rf1 := rf 1
  have qz := hS.z
  have q0 := hS.a0
  have q1 := hS.a1
  have qb : w.heap.size < V.heap.size := by omega
  have HB := Lib.hid hS.b
  have e1 : ¬ w.heap.size + 1 = V.heap.size := by omega
  have e2 : ¬ w.heap.size + 1 = V.heap.size + 1 := by omega
  have e3 : ¬ w.heap.size + 1 = V.heap.size + 1 + 1 := by omega
  have e4 : ¬ V.heap.size = w.heap.size + 1 := by omega
  have e5 : ¬ V.heap.size + 1 = w.heap.size + 1 := by omega
  have e6 : ¬ V.heap.size + 1 + 1 = w.heap.size + 1 := by omega
  have e7 : ¬ w.heap.size = V.heap.size := by omega
  have e8 : ¬ w.heap.size = V.heap.size + 1 := by omega
  have e9 : ¬ w.heap.size = V.heap.size + 1 + 1 := by omega
  have f1 : w.heap.size + 1 < V.heap.size + 1 := by omega
  have f2 : w.heap.size + 1 < V.heap.size + 1 + 1 := by omega
  have f3 : w.heap.size < V.heap.size + 1 := by omega
  have f4 : w.heap.size < V.heap.size + 1 + 1 := by omega
  clear hb hS rf
  go_wp2
  go_region
  go_wp2
  refine bodyPost_ret (v := .tuple #[.slice none 0 0, tyv 0 ⟨#[]⟩, .bool true]) (by simp [results, Tryz.results34, go_sem, qz, qb, e1, e2, e3, e4, e5, e6, e7, e8, e9, f1, f2, f3, f4, r0, r1, rf0, rf1, q0, q1]) rfl ⟨none, rfl, .inl rfl, ?_⟩
  repeat' (first | exact HB.out | apply Below.setCell | apply Below.alloc | apply Below.drew)
  all_goals (try simp)
  all_goals (try omega)
set_option maxRecDepth 100000 in
set_option maxHeartbeats 4000000 in
theorem rm_9_Unlock (w : World) : Calls Tryz.prog 34 #[tyv 9 ⟨#[]⟩, .string ⟨#[85, 110, 108, 111, 99, 107]⟩] w (Mt w [] 0 true) := by
  have hm : (⟨#[]⟩ : ByteArray).size ≤ maxLen := by unfold maxLen; decide
  have HV : Hid (∀ V, Calls Tryz.prog 22 #[tyv 9 ⟨#[]⟩] V fun e w' => e = .returned (.bool true) ∧ Below V.heap.size V w') := Lib.hid fun V => (vB_k (k := 9) (by omega) (by omega) (by omega)) ▸ rvalid_any 9 ⟨#[]⟩ V hm
  have HS := Lib.hid (Sh.start w 9 ⟨#[]⟩)
  clear hm
  go_enter Tryz.func34, Tryz.ntmps34
  go_wp2_with fail
  refine (HV.out _).mono ?_
  rintro e V ⟨rfl, hb⟩
  have hS := HS.out.keep hb
  obtain ⟨r0, r1, rf⟩ := box2 hS.r
  have rf0 := rf 0
  have rf1 := rf 1
  have qz := hS.z
  have q0 := hS.a0
  have q1 := hS.a1
  have qb : w.heap.size < V.heap.size := by omega
  have HB := Lib.hid hS.b
  have e1 : ¬ w.heap.size + 1 = V.heap.size := by omega
  have e2 : ¬ w.heap.size + 1 = V.heap.size + 1 := by omega
  have e3 : ¬ w.heap.size + 1 = V.heap.size + 1 + 1 := by omega
  have e4 : ¬ V.heap.size = w.heap.size + 1 := by omega
  have e5 : ¬ V.heap.size + 1 = w.heap.size + 1 := by omega
  have e6 : ¬ V.heap.size + 1 + 1 = w.heap.size + 1 := by omega
  have e7 : ¬ w.heap.size = V.heap.size := by omega
  have e8 : ¬ w.heap.size = V.heap.size + 1 := by omega
  have e9 : ¬ w.heap.size = V.heap.size + 1 + 1 := by omega
  have f1 : w.heap.size + 1 < V.heap.size + 1 := by omega
  have f2 : w.heap.size + 1 < V.heap.size + 1 + 1 := by omega
  have f3 : w.heap.size < V.heap.size + 1 := by omega
  have f4 : w.heap.size < V.heap.size + 1 + 1 := by omega
  clear hb hS rf
  go_wp2
  go_region
  go_wp2
  refine bodyPost_ret (v := .tuple #[.slice none 0 0, tyv 0 ⟨#[]⟩, .bool true]) (by simp [results, Tryz.results34, go_sem, qz, qb, e1, e2, e3, e4, e5, e6, e7, e8, e9, f1, f2, f3, f4, r0, r1, rf0, rf1, q0, q1]) rfl ⟨none, rfl, .inl rfl, ?_⟩
  repeat' (first | exact HB.out | apply Below.setCell | apply Below.alloc | apply Below.drew)
  all_goals (try simp)
  all_goals (try omega)
set_option maxRecDepth 100000 in
set_option maxHeartbeats 4000000 in
theorem rm_9_RLock (w : World) : Calls Tryz.prog 34 #[tyv 9 ⟨#[]⟩, .string ⟨#[82, 76, 111, 99, 107]⟩] w (Mt w [] 0 true) := by
  have hm : (⟨#[]⟩ : ByteArray).size ≤ maxLen := by unfold maxLen; decide
  have HV : Hid (∀ V, Calls Tryz.prog 22 #[tyv 9 ⟨#[]⟩] V fun e w' => e = .returned (.bool true) ∧ Below V.heap.size V w') := Lib.hid fun V => (vB_k (k := 9) (by omega) (by omega) (by omega)) ▸ rvalid_any 9 ⟨#[]⟩ V hm
  have HS := Lib.hid (Sh.start w 9 ⟨#[]⟩)
  clear hm
  go_enter Tryz.func34, Tryz.ntmps34
  go_wp2_with fail
  refine (HV.out _).mono ?_
  rintro e V ⟨rfl, hb⟩
  have hS := HS.out.keep hb
  obtain ⟨r0, r1, rf⟩ := box2 hS.r
  have rf0 := rf 0
  have rf1 := rf 1
  have qz := hS.z
  have q0 := hS.a0
  have q1 := hS.a1
  have qb : w.heap.size < V.heap.size := by omega
  have HB := Lib.hid hS.b
  have e1 : ¬ w.heap.size + 1 = V.heap.size := by omega
  have e2 : ¬ w.heap.size + 1 = V.heap.size + 1 := by omega
  have e3 : ¬ w.heap.size + 1 = V.heap.size + 1 + 1 := by omega
  have e4 : ¬ V.heap.size = w.heap.size + 1 := by omega
  have e5 : ¬ V.heap.size + 1 = w.heap.size + 1 := by omega
  have e6 : ¬ V.heap.size + 1 + 1 = w.heap.size + 1 := by omega
  have e7 : ¬ w.heap.size = V.heap.size := by omega
  have e8 : ¬ w.heap.size = V.heap.size + 1 := by omega
  have e9 : ¬ w.heap.size = V.heap.size + 1 + 1 := by omega
  have f1 : w.heap.size + 1 < V.heap.size + 1 := by omega
  have f2 : w.heap.size + 1 < V.heap.size + 1 + 1 := by omega
  have f3 : w.heap.size < V.heap.size + 1 := by omega
  have f4 : w.heap.size < V.heap.size + 1 + 1 := by omega
  clear hb hS rf
  go_wp2
  go_region
  go_wp2
  refine bodyPost_ret (v := .tuple #[.slice none 0 0, tyv 0 ⟨#[]⟩, .bool true]) (by simp [results, Tryz.results34, go_sem, qz, qb, e1, e2, e3, e4, e5, e6, e7, e8, e9, f1, f2, f3, f4, r0, r1, rf0, rf1, q0, q1]) rfl ⟨none, rfl, .inl rfl, ?_⟩
  repeat' (first | exact HB.out | apply Below.setCell | apply Below.alloc | apply Below.drew)
  all_goals (try simp)
  all_goals (try omega)
set_option maxRecDepth 100000 in
set_option maxHeartbeats 4000000 in
theorem rm_9_RUnlock (w : World) : Calls Tryz.prog 34 #[tyv 9 ⟨#[]⟩, .string ⟨#[82, 85, 110, 108, 111, 99, 107]⟩] w (Mt w [] 0 true) := by
  have hm : (⟨#[]⟩ : ByteArray).size ≤ maxLen := by unfold maxLen; decide
  have HV : Hid (∀ V, Calls Tryz.prog 22 #[tyv 9 ⟨#[]⟩] V fun e w' => e = .returned (.bool true) ∧ Below V.heap.size V w') := Lib.hid fun V => (vB_k (k := 9) (by omega) (by omega) (by omega)) ▸ rvalid_any 9 ⟨#[]⟩ V hm
  have HS := Lib.hid (Sh.start w 9 ⟨#[]⟩)
  clear hm
  go_enter Tryz.func34, Tryz.ntmps34
  go_wp2_with fail
  refine (HV.out _).mono ?_
  rintro e V ⟨rfl, hb⟩
  have hS := HS.out.keep hb
  obtain ⟨r0, r1, rf⟩ := box2 hS.r
  have rf0 := rf 0
  have rf1 := rf 1
  have qz := hS.z
  have q0 := hS.a0
  have q1 := hS.a1
  have qb : w.heap.size < V.heap.size := by omega
  have HB := Lib.hid hS.b
  have e1 : ¬ w.heap.size + 1 = V.heap.size := by omega
  have e2 : ¬ w.heap.size + 1 = V.heap.size + 1 := by omega
  have e3 : ¬ w.heap.size + 1 = V.heap.size + 1 + 1 := by omega
  have e4 : ¬ V.heap.size = w.heap.size + 1 := by omega
  have e5 : ¬ V.heap.size + 1 = w.heap.size + 1 := by omega
  have e6 : ¬ V.heap.size + 1 + 1 = w.heap.size + 1 := by omega
  have e7 : ¬ w.heap.size = V.heap.size := by omega
  have e8 : ¬ w.heap.size = V.heap.size + 1 := by omega
  have e9 : ¬ w.heap.size = V.heap.size + 1 + 1 := by omega
  have f1 : w.heap.size + 1 < V.heap.size + 1 := by omega
  have f2 : w.heap.size + 1 < V.heap.size + 1 + 1 := by omega
  have f3 : w.heap.size < V.heap.size + 1 := by omega
  have f4 : w.heap.size < V.heap.size + 1 + 1 := by omega
  clear hb hS rf
  go_wp2
  go_region
  go_wp2
  refine bodyPost_ret (v := .tuple #[.slice none 0 0, tyv 0 ⟨#[]⟩, .bool true]) (by simp [results, Tryz.results34, go_sem, qz, qb, e1, e2, e3, e4, e5, e6, e7, e8, e9, f1, f2, f3, f4, r0, r1, rf0, rf1, q0, q1]) rfl ⟨none, rfl, .inl rfl, ?_⟩
  repeat' (first | exact HB.out | apply Below.setCell | apply Below.alloc | apply Below.drew)
  all_goals (try simp)
  all_goals (try omega)
set_option maxRecDepth 100000 in
set_option maxHeartbeats 4000000 in
theorem rm_10_Done (w : World) : Calls Tryz.prog 34 #[tyv 10 ⟨#[]⟩, .string ⟨#[68, 111, 110, 101]⟩] w (Mt w [] 0 true) := by
  have hm : (⟨#[]⟩ : ByteArray).size ≤ maxLen := by unfold maxLen; decide
  have HV : Hid (∀ V, Calls Tryz.prog 22 #[tyv 10 ⟨#[]⟩] V fun e w' => e = .returned (.bool true) ∧ Below V.heap.size V w') := Lib.hid fun V => (vB_k (k := 10) (by omega) (by omega) (by omega)) ▸ rvalid_any 10 ⟨#[]⟩ V hm
  have HS := Lib.hid (Sh.start w 10 ⟨#[]⟩)
  clear hm
  go_enter Tryz.func34, Tryz.ntmps34
  go_wp2_with fail
  refine (HV.out _).mono ?_
  rintro e V ⟨rfl, hb⟩
  have hS := HS.out.keep hb
  obtain ⟨r0, r1, rf⟩ := box2 hS.r
  have rf0 := rf 0
  have rf1 := rf 1
  have qz := hS.z
  have q0 := hS.a0
  have q1 := hS.a1
  have qb : w.heap.size < V.heap.size := by omega
  have HB := Lib.hid hS.b
  have e1 : ¬ w.heap.size + 1 = V.heap.size := by omega
  have e2 : ¬ w.heap.size + 1 = V.heap.size + 1 := by omega
  have e3 : ¬ w.heap.size + 1 = V.heap.size + 1 + 1 := by omega
  have e4 : ¬ V.heap.size = w.heap.size + 1 := by omega
  have e5 : ¬ V.heap.size + 1 = w.heap.size + 1 := by omega
  have e6 : ¬ V.heap.size + 1 + 1 = w.heap.size + 1 := by omega
  have e7 : ¬ w.heap.size = V.heap.size := by omega
  have e8 : ¬ w.heap.size = V.heap.size + 1 := by omega
  have e9 : ¬ w.heap.size = V.heap.size + 1 + 1 := by omega
  have f1 : w.heap.size + 1 < V.heap.size + 1 := by omega
  have f2 : w.heap.size + 1 < V.heap.size + 1 + 1 := by omega
  have f3 : w.heap.size < V.heap.size + 1 := by omega
  have f4 : w.heap.size < V.heap.size + 1 + 1 := by omega
  clear hb hS rf
  go_wp2
  go_region
  go_wp2
  refine bodyPost_ret (v := .tuple #[.slice none 0 0, tyv 0 ⟨#[]⟩, .bool true]) (by simp [results, Tryz.results34, go_sem, qz, qb, e1, e2, e3, e4, e5, e6, e7, e8, e9, f1, f2, f3, f4, r0, r1, rf0, rf1, q0, q1]) rfl ⟨none, rfl, .inl rfl, ?_⟩
  repeat' (first | exact HB.out | apply Below.setCell | apply Below.alloc | apply Below.drew)
  all_goals (try simp)
  all_goals (try omega)
set_option maxRecDepth 100000 in
set_option maxHeartbeats 4000000 in
theorem rm_10_Wait (w : World) : Calls Tryz.prog 34 #[tyv 10 ⟨#[]⟩, .string ⟨#[87, 97, 105, 116]⟩] w (Mt w [] 0 true) := by
  have hm : (⟨#[]⟩ : ByteArray).size ≤ maxLen := by unfold maxLen; decide
  have HV : Hid (∀ V, Calls Tryz.prog 22 #[tyv 10 ⟨#[]⟩] V fun e w' => e = .returned (.bool true) ∧ Below V.heap.size V w') := Lib.hid fun V => (vB_k (k := 10) (by omega) (by omega) (by omega)) ▸ rvalid_any 10 ⟨#[]⟩ V hm
  have HS := Lib.hid (Sh.start w 10 ⟨#[]⟩)
  clear hm
  go_enter Tryz.func34, Tryz.ntmps34
  go_wp2_with fail
  refine (HV.out _).mono ?_
  rintro e V ⟨rfl, hb⟩
  have hS := HS.out.keep hb
  obtain ⟨r0, r1, rf⟩ := box2 hS.r
  have rf0 := rf 0
  have rf1 := rf 1
  have qz := hS.z
  have q0 := hS.a0
  have q1 := hS.a1
  have qb : w.heap.size < V.heap.size := by omega
  have HB := Lib.hid hS.b
  have e1 : ¬ w.heap.size + 1 = V.heap.size := by omega
  have e2 : ¬ w.heap.size + 1 = V.heap.size + 1 := by omega
  have e3 : ¬ w.heap.size + 1 = V.heap.size + 1 + 1 := by omega
  have e4 : ¬ V.heap.size = w.heap.size + 1 := by omega
  have e5 : ¬ V.heap.size + 1 = w.heap.size + 1 := by omega
  have e6 : ¬ V.heap.size + 1 + 1 = w.heap.size + 1 := by omega
  have e7 : ¬ w.heap.size = V.heap.size := by omega
  have e8 : ¬ w.heap.size = V.heap.size + 1 := by omega
  have e9 : ¬ w.heap.size = V.heap.size + 1 + 1 := by omega
  have f1 : w.heap.size + 1 < V.heap.size + 1 := by omega
  have f2 : w.heap.size + 1 < V.heap.size + 1 + 1 := by omega
  have f3 : w.heap.size < V.heap.size + 1 := by omega
  have f4 : w.heap.size < V.heap.size + 1 + 1 := by omega
  clear hb hS rf
  go_wp2
  go_region
  go_wp2
  refine bodyPost_ret (v := .tuple #[.slice none 0 0, tyv 0 ⟨#[]⟩, .bool true]) (by simp [results, Tryz.results34, go_sem, qz, qb, e1, e2, e3, e4, e5, e6, e7, e8, e9, f1, f2, f3, f4, r0, r1, rf0, rf1, q0, q1]) rfl ⟨none, rfl, .inl rfl, ?_⟩
  repeat' (first | exact HB.out | apply Below.setCell | apply Below.alloc | apply Below.drew)
  all_goals (try simp)
  all_goals (try omega)
set_option maxRecDepth 100000 in
set_option maxHeartbeats 4000000 in
theorem rm_10_Add (w : World) : Calls Tryz.prog 34 #[tyv 10 ⟨#[]⟩, .string ⟨#[65, 100, 100]⟩] w (Mt w [1] 0 true) := by
  have hm : (⟨#[]⟩ : ByteArray).size ≤ maxLen := by unfold maxLen; decide
  have HV : Hid (∀ V, Calls Tryz.prog 22 #[tyv 10 ⟨#[]⟩] V fun e w' => e = .returned (.bool true) ∧ Below V.heap.size V w') := Lib.hid fun V => (vB_k (k := 10) (by omega) (by omega) (by omega)) ▸ rvalid_any 10 ⟨#[]⟩ V hm
  have HS := Lib.hid (Sh.start w 10 ⟨#[]⟩)
  clear hm
  go_enter Tryz.func34, Tryz.ntmps34
  go_wp2_with fail
  refine (HV.out _).mono ?_
  rintro e V ⟨rfl, hb⟩
  have hS := HS.out.keep hb
  obtain ⟨r0, r1, rf⟩ := box2 hS.r
  have rf0 := rf 0
  have rf1 := rf 1
  have qz := hS.z
  have q0 := hS.a0
  have q1 := hS.a1
  have qb : w.heap.size < V.heap.size := by omega
  have HB := Lib.hid hS.b
  have e1 : ¬ w.heap.size + 1 = V.heap.size := by omega
  have e2 : ¬ w.heap.size + 1 = V.heap.size + 1 := by omega
  have e3 : ¬ w.heap.size + 1 = V.heap.size + 1 + 1 := by omega
  have e4 : ¬ V.heap.size = w.heap.size + 1 := by omega
  have e5 : ¬ V.heap.size + 1 = w.heap.size + 1 := by omega
  have e6 : ¬ V.heap.size + 1 + 1 = w.heap.size + 1 := by omega
  have e7 : ¬ w.heap.size = V.heap.size := by omega
  have e8 : ¬ w.heap.size = V.heap.size + 1 := by omega
  have e9 : ¬ w.heap.size = V.heap.size + 1 + 1 := by omega
  have f1 : w.heap.size + 1 < V.heap.size + 1 := by omega
  have f2 : w.heap.size + 1 < V.heap.size + 1 + 1 := by omega
  have f3 : w.heap.size < V.heap.size + 1 := by omega
  have f4 : w.heap.size < V.heap.size + 1 + 1 := by omega
  clear hb hS rf
  go_wp2
  go_region
  go_wp2
  refine bodyPost_ret (v := .tuple #[.slice (some ⟨V.heap.size + 1 + 1 + 1, 0, none⟩) 1 1, tyv 0 ⟨#[]⟩, .bool true]) (by simp [results, Tryz.results34, go_sem, qz, qb, e1, e2, e3, e4, e5, e6, e7, e8, e9, f1, f2, f3, f4, r0, r1, rf0, rf1, q0, q1]) rfl ⟨_, rfl, .inr ⟨V.heap.size + 1 + 1 + 1, rfl, ?_, ?_⟩, ?_⟩
  · exact heap_alloc_at (by simp)
  · simp
  · repeat' (first | exact HB.out | apply Below.setCell | apply Below.alloc | apply Below.drew)
    all_goals (try simp)
    all_goals (try omega)
set_option maxRecDepth 100000 in
set_option maxHeartbeats 4000000 in
theorem rm_12_Store (w : World) : Calls Tryz.prog 34 #[tyv 12 ⟨#[]⟩, .string ⟨#[83, 116, 111, 114, 101]⟩] w (Mt w [1] 0 true) := by
  have hm : (⟨#[]⟩ : ByteArray).size ≤ maxLen := by unfold maxLen; decide
  have HV : Hid (∀ V, Calls Tryz.prog 22 #[tyv 12 ⟨#[]⟩] V fun e w' => e = .returned (.bool true) ∧ Below V.heap.size V w') := Lib.hid fun V => (vB_k (k := 12) (by omega) (by omega) (by omega)) ▸ rvalid_any 12 ⟨#[]⟩ V hm
  have HS := Lib.hid (Sh.start w 12 ⟨#[]⟩)
  clear hm
  go_enter Tryz.func34, Tryz.ntmps34
  go_wp2_with fail
  refine (HV.out _).mono ?_
  rintro e V ⟨rfl, hb⟩
  have hS := HS.out.keep hb
  obtain ⟨r0, r1, rf⟩ := box2 hS.r
  have rf0 := rf 0
  have rf1 := rf 1
  have qz := hS.z
  have q0 := hS.a0
  have q1 := hS.a1
  have qb : w.heap.size < V.heap.size := by omega
  have HB := Lib.hid hS.b
  have e1 : ¬ w.heap.size + 1 = V.heap.size := by omega
  have e2 : ¬ w.heap.size + 1 = V.heap.size + 1 := by omega
  have e3 : ¬ w.heap.size + 1 = V.heap.size + 1 + 1 := by omega
  have e4 : ¬ V.heap.size = w.heap.size + 1 := by omega
  have e5 : ¬ V.heap.size + 1 = w.heap.size + 1 := by omega
  have e6 : ¬ V.heap.size + 1 + 1 = w.heap.size + 1 := by omega
  have e7 : ¬ w.heap.size = V.heap.size := by omega
  have e8 : ¬ w.heap.size = V.heap.size + 1 := by omega
  have e9 : ¬ w.heap.size = V.heap.size + 1 + 1 := by omega
  have f1 : w.heap.size + 1 < V.heap.size + 1 := by omega
  have f2 : w.heap.size + 1 < V.heap.size + 1 + 1 := by omega
  have f3 : w.heap.size < V.heap.size + 1 := by omega
  have f4 : w.heap.size < V.heap.size + 1 + 1 := by omega
  clear hb hS rf
  go_wp2
  go_region
  go_wp2
  refine bodyPost_ret (v := .tuple #[.slice (some ⟨V.heap.size + 1 + 1 + 1, 0, none⟩) 1 1, tyv 0 ⟨#[]⟩, .bool true]) (by simp [results, Tryz.results34, go_sem, qz, qb, e1, e2, e3, e4, e5, e6, e7, e8, e9, f1, f2, f3, f4, r0, r1, rf0, rf1, q0, q1]) rfl ⟨_, rfl, .inr ⟨V.heap.size + 1 + 1 + 1, rfl, ?_, ?_⟩, ?_⟩
  · exact heap_alloc_at (by simp)
  · simp
  · repeat' (first | exact HB.out | apply Below.setCell | apply Below.alloc | apply Below.drew)
    all_goals (try simp)
    all_goals (try omega)
set_option maxRecDepth 100000 in
set_option maxHeartbeats 4000000 in
theorem rm_11_Do (w : World) : Calls Tryz.prog 34 #[tyv 11 ⟨#[]⟩, .string ⟨#[68, 111]⟩] w (Mt w [7] 0 true) := by
  have hm : (⟨#[]⟩ : ByteArray).size ≤ maxLen := by unfold maxLen; decide
  have HV : Hid (∀ V, Calls Tryz.prog 22 #[tyv 11 ⟨#[]⟩] V fun e w' => e = .returned (.bool true) ∧ Below V.heap.size V w') := Lib.hid fun V => (vB_k (k := 11) (by omega) (by omega) (by omega)) ▸ rvalid_any 11 ⟨#[]⟩ V hm
  have HS := Lib.hid (Sh.start w 11 ⟨#[]⟩)
  clear hm
  go_enter Tryz.func34, Tryz.ntmps34
  go_wp2_with fail
  refine (HV.out _).mono ?_
  rintro e V ⟨rfl, hb⟩
  have hS := HS.out.keep hb
  obtain ⟨r0, r1, rf⟩ := box2 hS.r
  have rf0 := rf 0
  have rf1 := rf 1
  have qz := hS.z
  have q0 := hS.a0
  have q1 := hS.a1
  have qb : w.heap.size < V.heap.size := by omega
  have HB := Lib.hid hS.b
  have e1 : ¬ w.heap.size + 1 = V.heap.size := by omega
  have e2 : ¬ w.heap.size + 1 = V.heap.size + 1 := by omega
  have e3 : ¬ w.heap.size + 1 = V.heap.size + 1 + 1 := by omega
  have e4 : ¬ V.heap.size = w.heap.size + 1 := by omega
  have e5 : ¬ V.heap.size + 1 = w.heap.size + 1 := by omega
  have e6 : ¬ V.heap.size + 1 + 1 = w.heap.size + 1 := by omega
  have e7 : ¬ w.heap.size = V.heap.size := by omega
  have e8 : ¬ w.heap.size = V.heap.size + 1 := by omega
  have e9 : ¬ w.heap.size = V.heap.size + 1 + 1 := by omega
  have f1 : w.heap.size + 1 < V.heap.size + 1 := by omega
  have f2 : w.heap.size + 1 < V.heap.size + 1 + 1 := by omega
  have f3 : w.heap.size < V.heap.size + 1 := by omega
  have f4 : w.heap.size < V.heap.size + 1 + 1 := by omega
  clear hb hS rf
  go_wp2
  go_region
  go_wp2
  refine bodyPost_ret (v := .tuple #[.slice (some ⟨V.heap.size + 1 + 1 + 1, 0, none⟩) 1 1, tyv 0 ⟨#[]⟩, .bool true]) (by simp [results, Tryz.results34, go_sem, qz, qb, e1, e2, e3, e4, e5, e6, e7, e8, e9, f1, f2, f3, f4, r0, r1, rf0, rf1, q0, q1]) rfl ⟨_, rfl, .inr ⟨V.heap.size + 1 + 1 + 1, rfl, ?_, ?_⟩, ?_⟩
  · exact heap_alloc_at (by simp)
  · simp
  · repeat' (first | exact HB.out | apply Below.setCell | apply Below.alloc | apply Below.drew)
    all_goals (try simp)
    all_goals (try omega)
set_option maxRecDepth 100000 in
set_option maxHeartbeats 4000000 in
theorem rm_12_Load (w : World) : Calls Tryz.prog 34 #[tyv 12 ⟨#[]⟩, .string ⟨#[76, 111, 97, 100]⟩] w (Mt w [] 1 true) := by
  have hm : (⟨#[]⟩ : ByteArray).size ≤ maxLen := by unfold maxLen; decide
  have HV : Hid (∀ V, Calls Tryz.prog 22 #[tyv 12 ⟨#[]⟩] V fun e w' => e = .returned (.bool true) ∧ Below V.heap.size V w') := Lib.hid fun V => (vB_k (k := 12) (by omega) (by omega) (by omega)) ▸ rvalid_any 12 ⟨#[]⟩ V hm
  have HS := Lib.hid (Sh.start w 12 ⟨#[]⟩)
  clear hm
  go_enter Tryz.func34, Tryz.ntmps34
  go_wp2_with fail
  refine (HV.out _).mono ?_
  rintro e V ⟨rfl, hb⟩
  have hS := HS.out.keep hb
  obtain ⟨r0, r1, rf⟩ := box2 hS.r
  have rf0 := rf 0
  have rf1 := rf 1
  have qz := hS.z
  have q0 := hS.a0
  have q1 := hS.a1
  have qb : w.heap.size < V.heap.size := by omega
  have HB := Lib.hid hS.b
  have e1 : ¬ w.heap.size + 1 = V.heap.size := by omega
  have e2 : ¬ w.heap.size + 1 = V.heap.size + 1 := by omega
  have e3 : ¬ w.heap.size + 1 = V.heap.size + 1 + 1 := by omega
  have e4 : ¬ V.heap.size = w.heap.size + 1 := by omega
  have e5 : ¬ V.heap.size + 1 = w.heap.size + 1 := by omega
  have e6 : ¬ V.heap.size + 1 + 1 = w.heap.size + 1 := by omega
  have e7 : ¬ w.heap.size = V.heap.size := by omega
  have e8 : ¬ w.heap.size = V.heap.size + 1 := by omega
  have e9 : ¬ w.heap.size = V.heap.size + 1 + 1 := by omega
  have f1 : w.heap.size + 1 < V.heap.size + 1 := by omega
  have f2 : w.heap.size + 1 < V.heap.size + 1 + 1 := by omega
  have f3 : w.heap.size < V.heap.size + 1 := by omega
  have f4 : w.heap.size < V.heap.size + 1 + 1 := by omega
  clear hb hS rf
  go_wp2
  go_region
  go_wp2
  refine bodyPost_ret (v := .tuple #[.slice none 0 0, tyv 1 ⟨#[]⟩, .bool true]) (by simp [results, Tryz.results34, go_sem, qz, qb, e1, e2, e3, e4, e5, e6, e7, e8, e9, f1, f2, f3, f4, r0, r1, rf0, rf1, q0, q1]) rfl ⟨none, rfl, .inl rfl, ?_⟩
  repeat' (first | exact HB.out | apply Below.setCell | apply Below.alloc | apply Below.drew)
  all_goals (try simp)
  all_goals (try omega)
set_option maxRecDepth 100000 in
set_option maxHeartbeats 4000000 in
theorem rm_12_Add (w : World) : Calls Tryz.prog 34 #[tyv 12 ⟨#[]⟩, .string ⟨#[65, 100, 100]⟩] w (Mt w [1] 1 true) := by
  have hm : (⟨#[]⟩ : ByteArray).size ≤ maxLen := by unfold maxLen; decide
  have HV : Hid (∀ V, Calls Tryz.prog 22 #[tyv 12 ⟨#[]⟩] V fun e w' => e = .returned (.bool true) ∧ Below V.heap.size V w') := Lib.hid fun V => (vB_k (k := 12) (by omega) (by omega) (by omega)) ▸ rvalid_any 12 ⟨#[]⟩ V hm
  have HS := Lib.hid (Sh.start w 12 ⟨#[]⟩)
  clear hm
  go_enter Tryz.func34, Tryz.ntmps34
  go_wp2_with fail
  refine (HV.out _).mono ?_
  rintro e V ⟨rfl, hb⟩
  have hS := HS.out.keep hb
  obtain ⟨r0, r1, rf⟩ := box2 hS.r
  have rf0 := rf 0
  have rf1 := rf 1
  have qz := hS.z
  have q0 := hS.a0
  have q1 := hS.a1
  have qb : w.heap.size < V.heap.size := by omega
  have HB := Lib.hid hS.b
  have e1 : ¬ w.heap.size + 1 = V.heap.size := by omega
  have e2 : ¬ w.heap.size + 1 = V.heap.size + 1 := by omega
  have e3 : ¬ w.heap.size + 1 = V.heap.size + 1 + 1 := by omega
  have e4 : ¬ V.heap.size = w.heap.size + 1 := by omega
  have e5 : ¬ V.heap.size + 1 = w.heap.size + 1 := by omega
  have e6 : ¬ V.heap.size + 1 + 1 = w.heap.size + 1 := by omega
  have e7 : ¬ w.heap.size = V.heap.size := by omega
  have e8 : ¬ w.heap.size = V.heap.size + 1 := by omega
  have e9 : ¬ w.heap.size = V.heap.size + 1 + 1 := by omega
  have f1 : w.heap.size + 1 < V.heap.size + 1 := by omega
  have f2 : w.heap.size + 1 < V.heap.size + 1 + 1 := by omega
  have f3 : w.heap.size < V.heap.size + 1 := by omega
  have f4 : w.heap.size < V.heap.size + 1 + 1 := by omega
  clear hb hS rf
  go_wp2
  go_region
  go_wp2
  refine bodyPost_ret (v := .tuple #[.slice (some ⟨V.heap.size + 1 + 1 + 1, 0, none⟩) 1 1, tyv 1 ⟨#[]⟩, .bool true]) (by simp [results, Tryz.results34, go_sem, qz, qb, e1, e2, e3, e4, e5, e6, e7, e8, e9, f1, f2, f3, f4, r0, r1, rf0, rf1, q0, q1]) rfl ⟨_, rfl, .inr ⟨V.heap.size + 1 + 1 + 1, rfl, ?_, ?_⟩, ?_⟩
  · exact heap_alloc_at (by simp)
  · simp
  · repeat' (first | exact HB.out | apply Below.setCell | apply Below.alloc | apply Below.drew)
    all_goals (try simp)
    all_goals (try omega)
set_option maxRecDepth 100000 in
set_option maxHeartbeats 4000000 in
theorem rm_12_CompareAndSwap (w : World) : Calls Tryz.prog 34 #[tyv 12 ⟨#[]⟩, .string ⟨#[67, 111, 109, 112, 97, 114, 101, 65, 110, 100, 83, 119, 97, 112]⟩] w (Mt w [1, 1] 2 true) := by
  have hm : (⟨#[]⟩ : ByteArray).size ≤ maxLen := by unfold maxLen; decide
  have HV : Hid (∀ V, Calls Tryz.prog 22 #[tyv 12 ⟨#[]⟩] V fun e w' => e = .returned (.bool true) ∧ Below V.heap.size V w') := Lib.hid fun V => (vB_k (k := 12) (by omega) (by omega) (by omega)) ▸ rvalid_any 12 ⟨#[]⟩ V hm
  have HS := Lib.hid (Sh.start w 12 ⟨#[]⟩)
  clear hm
  go_enter Tryz.func34, Tryz.ntmps34
  go_wp2_with fail
  refine (HV.out _).mono ?_
  rintro e V ⟨rfl, hb⟩
  have hS := HS.out.keep hb
  obtain ⟨r0, r1, rf⟩ := box2 hS.r
  have rf0 := rf 0
  have rf1 := rf 1
  have qz := hS.z
  have q0 := hS.a0
  have q1 := hS.a1
  have qb : w.heap.size < V.heap.size := by omega
  have HB := Lib.hid hS.b
  have e1 : ¬ w.heap.size + 1 = V.heap.size := by omega
  have e2 : ¬ w.heap.size + 1 = V.heap.size + 1 := by omega
  have e3 : ¬ w.heap.size + 1 = V.heap.size + 1 + 1 := by omega
  have e4 : ¬ V.heap.size = w.heap.size + 1 := by omega
  have e5 : ¬ V.heap.size + 1 = w.heap.size + 1 := by omega
  have e6 : ¬ V.heap.size + 1 + 1 = w.heap.size + 1 := by omega
  have e7 : ¬ w.heap.size = V.heap.size := by omega
  have e8 : ¬ w.heap.size = V.heap.size + 1 := by omega
  have e9 : ¬ w.heap.size = V.heap.size + 1 + 1 := by omega
  have f1 : w.heap.size + 1 < V.heap.size + 1 := by omega
  have f2 : w.heap.size + 1 < V.heap.size + 1 + 1 := by omega
  have f3 : w.heap.size < V.heap.size + 1 := by omega
  have f4 : w.heap.size < V.heap.size + 1 + 1 := by omega
  clear hb hS rf
  go_wp2
  go_region
  go_wp2
  refine bodyPost_ret (v := .tuple #[.slice (some ⟨V.heap.size + 1 + 1 + 1, 0, none⟩) 2 2, tyv 2 ⟨#[]⟩, .bool true]) (by simp [results, Tryz.results34, go_sem, qz, qb, e1, e2, e3, e4, e5, e6, e7, e8, e9, f1, f2, f3, f4, r0, r1, rf0, rf1, q0, q1]) rfl ⟨_, rfl, .inr ⟨V.heap.size + 1 + 1 + 1, rfl, ?_, ?_⟩, ?_⟩
  · exact heap_alloc_at (by simp)
  · simp
  · repeat' (first | exact HB.out | apply Below.setCell | apply Below.alloc | apply Below.drew)
    all_goals (try simp)
    all_goals (try omega)
set_option maxRecDepth 100000 in
set_option maxHeartbeats 4000000 in
theorem rmiss_8 {c1 c2 : Bool} (nm : ByteArray) (w : World) (hLock : (nm.toList == [76, 111, 99, 107]) = false) (hUnlock : (nm.toList == [85, 110, 108, 111, 99, 107]) = false) (hRLock : (nm.toList == [82, 76, 111, 99, 107]) = c1) (hRUnlock : (nm.toList == [82, 85, 110, 108, 111, 99, 107]) = c2) : Calls Tryz.prog 34 #[tyv 8 ⟨#[]⟩, .string nm] w (Mt w [] 0 false) := by
  have hm : (⟨#[]⟩ : ByteArray).size ≤ maxLen := by unfold maxLen; decide
  cases c1 <;> cases c2 <;>
  · have HV : Hid (∀ V, Calls Tryz.prog 22 #[tyv 8 ⟨#[]⟩] V fun e w' => e = .returned (.bool true) ∧ Below V.heap.size V w') := Lib.hid fun V => (vB_k (k := 8) (by omega) (by omega) (by omega)) ▸ rvalid_any 8 ⟨#[]⟩ V hm
    have HS := Lib.hid (Sh.start w 8 ⟨#[]⟩)
    clear hm
    go_enter Tryz.func34, Tryz.ntmps34
    go_wp2_with fail
    refine (HV.out _).mono ?_
    rintro e V ⟨rfl, hb⟩
    have hS := HS.out.keep hb
    obtain ⟨r0, r1, rf⟩ := box2 hS.r
    have rf0 := rf 0
    have rf1 := rf 1
    have qz := hS.z
    have q0 := hS.a0
    have q1 := hS.a1
    have qb : w.heap.size < V.heap.size := by omega
    have HB := Lib.hid hS.b
    have e1 : ¬ w.heap.size + 1 = V.heap.size := by omega
    have e2 : ¬ w.heap.size + 1 = V.heap.size + 1 := by omega
    have e3 : ¬ w.heap.size + 1 = V.heap.size + 1 + 1 := by omega
    have e4 : ¬ V.heap.size = w.heap.size + 1 := by omega
    have e5 : ¬ V.heap.size + 1 = w.heap.size + 1 := by omega
    have e6 : ¬ V.heap.size + 1 + 1 = w.heap.size + 1 := by omega
    have e7 : ¬ w.heap.size = V.heap.size := by omega
    have e8 : ¬ w.heap.size = V.heap.size + 1 := by omega
    have e9 : ¬ w.heap.size = V.heap.size + 1 + 1 := by omega
    have f1 : w.heap.size + 1 < V.heap.size + 1 := by omega
    have f2 : w.heap.size + 1 < V.heap.size + 1 + 1 := by omega
    have f3 : w.heap.size < V.heap.size + 1 := by omega
    have f4 : w.heap.size < V.heap.size + 1 + 1 := by omega
    clear hb hS rf
    go_wp2
    go_region
    go_wp2
    refine bodyPost_ret (v := .tuple #[.slice none 0 0, tyv 0 ⟨#[]⟩, .bool false]) (by simp [results, Tryz.results34, go_sem, qz, qb, e1, e2, e3, e4, e5, e6, e7, e8, e9, f1, f2, f3, f4, r0, r1, rf0, rf1, q0, q1]) rfl ⟨none, rfl, .inl rfl, ?_⟩
    repeat' (first | exact HB.out | apply Below.setCell | apply Below.alloc | apply Below.drew)
    all_goals (try simp)
    all_goals (try omega)
set_option maxRecDepth 100000 in
set_option maxHeartbeats 4000000 in
theorem rmiss_9 (nm : ByteArray) (w : World) (hLock : (nm.toList == [76, 111, 99, 107]) = false) (hUnlock : (nm.toList == [85, 110, 108, 111, 99, 107]) = false) (hRLock : (nm.toList == [82, 76, 111, 99, 107]) = false) (hRUnlock : (nm.toList == [82, 85, 110, 108, 111, 99, 107]) = false) : Calls Tryz.prog 34 #[tyv 9 ⟨#[]⟩, .string nm] w (Mt w [] 0 false) := by
  have hm : (⟨#[]⟩ : ByteArray).size ≤ maxLen := by unfold maxLen; decide
  have HV : Hid (∀ V, Calls Tryz.prog 22 #[tyv 9 ⟨#[]⟩] V fun e w' => e = .returned (.bool true) ∧ Below V.heap.size V w') := Lib.hid fun V => (vB_k (k := 9) (by omega) (by omega) (by omega)) ▸ rvalid_any 9 ⟨#[]⟩ V hm
  have HS := Lib.hid (Sh.start w 9 ⟨#[]⟩)
  clear hm
  go_enter Tryz.func34, Tryz.ntmps34
  go_wp2_with fail
  refine (HV.out _).mono ?_
  rintro e V ⟨rfl, hb⟩
  have hS := HS.out.keep hb
  obtain ⟨r0, r1, rf⟩ := box2 hS.r
  have rf0 := rf 0
  have rf1 := rf 1
  have qz := hS.z
  have q0 := hS.a0
  have q1 := hS.a1
  have qb : w.heap.size < V.heap.size := by omega
  have HB := Lib.hid hS.b
  have e1 : ¬ w.heap.size + 1 = V.heap.size := by omega
  have e2 : ¬ w.heap.size + 1 = V.heap.size + 1 := by omega
  have e3 : ¬ w.heap.size + 1 = V.heap.size + 1 + 1 := by omega
  have e4 : ¬ V.heap.size = w.heap.size + 1 := by omega
  have e5 : ¬ V.heap.size + 1 = w.heap.size + 1 := by omega
  have e6 : ¬ V.heap.size + 1 + 1 = w.heap.size + 1 := by omega
  have e7 : ¬ w.heap.size = V.heap.size := by omega
  have e8 : ¬ w.heap.size = V.heap.size + 1 := by omega
  have e9 : ¬ w.heap.size = V.heap.size + 1 + 1 := by omega
  have f1 : w.heap.size + 1 < V.heap.size + 1 := by omega
  have f2 : w.heap.size + 1 < V.heap.size + 1 + 1 := by omega
  have f3 : w.heap.size < V.heap.size + 1 := by omega
  have f4 : w.heap.size < V.heap.size + 1 + 1 := by omega
  clear hb hS rf
  go_wp2
  go_region
  go_wp2
  refine bodyPost_ret (v := .tuple #[.slice none 0 0, tyv 0 ⟨#[]⟩, .bool false]) (by simp [results, Tryz.results34, go_sem, qz, qb, e1, e2, e3, e4, e5, e6, e7, e8, e9, f1, f2, f3, f4, r0, r1, rf0, rf1, q0, q1]) rfl ⟨none, rfl, .inl rfl, ?_⟩
  repeat' (first | exact HB.out | apply Below.setCell | apply Below.alloc | apply Below.drew)
  all_goals (try simp)
  all_goals (try omega)
set_option maxRecDepth 100000 in
set_option maxHeartbeats 4000000 in
theorem rmiss_10 (nm : ByteArray) (w : World) (hDone : (nm.toList == [68, 111, 110, 101]) = false) (hWait : (nm.toList == [87, 97, 105, 116]) = false) (hAdd : (nm.toList == [65, 100, 100]) = false) : Calls Tryz.prog 34 #[tyv 10 ⟨#[]⟩, .string nm] w (Mt w [] 0 false) := by
  have hm : (⟨#[]⟩ : ByteArray).size ≤ maxLen := by unfold maxLen; decide
  have HV : Hid (∀ V, Calls Tryz.prog 22 #[tyv 10 ⟨#[]⟩] V fun e w' => e = .returned (.bool true) ∧ Below V.heap.size V w') := Lib.hid fun V => (vB_k (k := 10) (by omega) (by omega) (by omega)) ▸ rvalid_any 10 ⟨#[]⟩ V hm
  have HS := Lib.hid (Sh.start w 10 ⟨#[]⟩)
  clear hm
  go_enter Tryz.func34, Tryz.ntmps34
  go_wp2_with fail
  refine (HV.out _).mono ?_
  rintro e V ⟨rfl, hb⟩
  have hS := HS.out.keep hb
  obtain ⟨r0, r1, rf⟩ := box2 hS.r
  have rf0 := rf 0
  have rf1 := rf 1
  have qz := hS.z
  have q0 := hS.a0
  have q1 := hS.a1
  have qb : w.heap.size < V.heap.size := by omega
  have HB := Lib.hid hS.b
  have e1 : ¬ w.heap.size + 1 = V.heap.size := by omega
  have e2 : ¬ w.heap.size + 1 = V.heap.size + 1 := by omega
  have e3 : ¬ w.heap.size + 1 = V.heap.size + 1 + 1 := by omega
  have e4 : ¬ V.heap.size = w.heap.size + 1 := by omega
  have e5 : ¬ V.heap.size + 1 = w.heap.size + 1 := by omega
  have e6 : ¬ V.heap.size + 1 + 1 = w.heap.size + 1 := by omega
  have e7 : ¬ w.heap.size = V.heap.size := by omega
  have e8 : ¬ w.heap.size = V.heap.size + 1 := by omega
  have e9 : ¬ w.heap.size = V.heap.size + 1 + 1 := by omega
  have f1 : w.heap.size + 1 < V.heap.size + 1 := by omega
  have f2 : w.heap.size + 1 < V.heap.size + 1 + 1 := by omega
  have f3 : w.heap.size < V.heap.size + 1 := by omega
  have f4 : w.heap.size < V.heap.size + 1 + 1 := by omega
  clear hb hS rf
  go_wp2
  go_region
  go_wp2
  refine bodyPost_ret (v := .tuple #[.slice none 0 0, tyv 0 ⟨#[]⟩, .bool false]) (by simp [results, Tryz.results34, go_sem, qz, qb, e1, e2, e3, e4, e5, e6, e7, e8, e9, f1, f2, f3, f4, r0, r1, rf0, rf1, q0, q1]) rfl ⟨none, rfl, .inl rfl, ?_⟩
  repeat' (first | exact HB.out | apply Below.setCell | apply Below.alloc | apply Below.drew)
  all_goals (try simp)
  all_goals (try omega)
set_option maxRecDepth 100000 in
set_option maxHeartbeats 4000000 in
theorem rmiss_11 (nm : ByteArray) (w : World) (hDo : (nm.toList == [68, 111]) = false) : Calls Tryz.prog 34 #[tyv 11 ⟨#[]⟩, .string nm] w (Mt w [] 0 false) := by
  have hm : (⟨#[]⟩ : ByteArray).size ≤ maxLen := by unfold maxLen; decide
  have HV : Hid (∀ V, Calls Tryz.prog 22 #[tyv 11 ⟨#[]⟩] V fun e w' => e = .returned (.bool true) ∧ Below V.heap.size V w') := Lib.hid fun V => (vB_k (k := 11) (by omega) (by omega) (by omega)) ▸ rvalid_any 11 ⟨#[]⟩ V hm
  have HS := Lib.hid (Sh.start w 11 ⟨#[]⟩)
  clear hm
  go_enter Tryz.func34, Tryz.ntmps34
  go_wp2_with fail
  refine (HV.out _).mono ?_
  rintro e V ⟨rfl, hb⟩
  have hS := HS.out.keep hb
  obtain ⟨r0, r1, rf⟩ := box2 hS.r
  have rf0 := rf 0
  have rf1 := rf 1
  have qz := hS.z
  have q0 := hS.a0
  have q1 := hS.a1
  have qb : w.heap.size < V.heap.size := by omega
  have HB := Lib.hid hS.b
  have e1 : ¬ w.heap.size + 1 = V.heap.size := by omega
  have e2 : ¬ w.heap.size + 1 = V.heap.size + 1 := by omega
  have e3 : ¬ w.heap.size + 1 = V.heap.size + 1 + 1 := by omega
  have e4 : ¬ V.heap.size = w.heap.size + 1 := by omega
  have e5 : ¬ V.heap.size + 1 = w.heap.size + 1 := by omega
  have e6 : ¬ V.heap.size + 1 + 1 = w.heap.size + 1 := by omega
  have e7 : ¬ w.heap.size = V.heap.size := by omega
  have e8 : ¬ w.heap.size = V.heap.size + 1 := by omega
  have e9 : ¬ w.heap.size = V.heap.size + 1 + 1 := by omega
  have f1 : w.heap.size + 1 < V.heap.size + 1 := by omega
  have f2 : w.heap.size + 1 < V.heap.size + 1 + 1 := by omega
  have f3 : w.heap.size < V.heap.size + 1 := by omega
  have f4 : w.heap.size < V.heap.size + 1 + 1 := by omega
  clear hb hS rf
  go_wp2
  go_region
  go_wp2
  refine bodyPost_ret (v := .tuple #[.slice none 0 0, tyv 0 ⟨#[]⟩, .bool false]) (by simp [results, Tryz.results34, go_sem, qz, qb, e1, e2, e3, e4, e5, e6, e7, e8, e9, f1, f2, f3, f4, r0, r1, rf0, rf1, q0, q1]) rfl ⟨none, rfl, .inl rfl, ?_⟩
  repeat' (first | exact HB.out | apply Below.setCell | apply Below.alloc | apply Below.drew)
  all_goals (try simp)
  all_goals (try omega)
set_option maxRecDepth 100000 in
set_option maxHeartbeats 4000000 in
theorem rmiss_12 (nm : ByteArray) (w : World) (hLoad : (nm.toList == [76, 111, 97, 100]) = false) (hStore : (nm.toList == [83, 116, 111, 114, 101]) = false) (hAdd : (nm.toList == [65, 100, 100]) = false) (hCompareAndSwap : (nm.toList == [67, 111, 109, 112, 97, 114, 101, 65, 110, 100, 83, 119, 97, 112]) = false) : Calls Tryz.prog 34 #[tyv 12 ⟨#[]⟩, .string nm] w (Mt w [] 0 false) := by
  have hm : (⟨#[]⟩ : ByteArray).size ≤ maxLen := by unfold maxLen; decide
  have HV : Hid (∀ V, Calls Tryz.prog 22 #[tyv 12 ⟨#[]⟩] V fun e w' => e = .returned (.bool true) ∧ Below V.heap.size V w') := Lib.hid fun V => (vB_k (k := 12) (by omega) (by omega) (by omega)) ▸ rvalid_any 12 ⟨#[]⟩ V hm
  have HS := Lib.hid (Sh.start w 12 ⟨#[]⟩)
  clear hm
  go_enter Tryz.func34, Tryz.ntmps34
  go_wp2_with fail
  refine (HV.out _).mono ?_
  rintro e V ⟨rfl, hb⟩
  have hS := HS.out.keep hb
  obtain ⟨r0, r1, rf⟩ := box2 hS.r
  have rf0 := rf 0
  have rf1 := rf 1
  have qz := hS.z
  have q0 := hS.a0
  have q1 := hS.a1
  have qb : w.heap.size < V.heap.size := by omega
  have HB := Lib.hid hS.b
  have e1 : ¬ w.heap.size + 1 = V.heap.size := by omega
  have e2 : ¬ w.heap.size + 1 = V.heap.size + 1 := by omega
  have e3 : ¬ w.heap.size + 1 = V.heap.size + 1 + 1 := by omega
  have e4 : ¬ V.heap.size = w.heap.size + 1 := by omega
  have e5 : ¬ V.heap.size + 1 = w.heap.size + 1 := by omega
  have e6 : ¬ V.heap.size + 1 + 1 = w.heap.size + 1 := by omega
  have e7 : ¬ w.heap.size = V.heap.size := by omega
  have e8 : ¬ w.heap.size = V.heap.size + 1 := by omega
  have e9 : ¬ w.heap.size = V.heap.size + 1 + 1 := by omega
  have f1 : w.heap.size + 1 < V.heap.size + 1 := by omega
  have f2 : w.heap.size + 1 < V.heap.size + 1 + 1 := by omega
  have f3 : w.heap.size < V.heap.size + 1 := by omega
  have f4 : w.heap.size < V.heap.size + 1 + 1 := by omega
  clear hb hS rf
  go_wp2
  go_region
  go_wp2
  refine bodyPost_ret (v := .tuple #[.slice none 0 0, tyv 0 ⟨#[]⟩, .bool false]) (by simp [results, Tryz.results34, go_sem, qz, qb, e1, e2, e3, e4, e5, e6, e7, e8, e9, f1, f2, f3, f4, r0, r1, rf0, rf1, q0, q1]) rfl ⟨none, rfl, .inl rfl, ?_⟩
  repeat' (first | exact HB.out | apply Below.setCell | apply Below.alloc | apply Below.drew)
  all_goals (try simp)
  all_goals (try omega)
set_option maxRecDepth 100000 in
set_option maxHeartbeats 4000000 in
theorem rmiss_k (k : Int) (s nm : ByteArray) (w : World) (hm : s.size ≤ maxLen) (hv : vB k s = true) (h8 : (k == 8) = false) (h9 : (k == 9) = false) (h10 : (k == 10) = false) (h11 : (k == 11) = false) (h12 : (k == 12) = false) : Calls Tryz.prog 34 #[tyv k s, .string nm] w (Mt w [] 0 false) := by
  have HV : Hid (∀ V, Calls Tryz.prog 22 #[tyv k s] V fun e w' => e = .returned (.bool true) ∧ Below V.heap.size V w') := Lib.hid fun V => hv ▸ rvalid_any k s V hm
  have HS := Lib.hid (Sh.start w k s)
  clear hm hv
  go_enter Tryz.func34, Tryz.ntmps34
  go_wp2_with fail
  refine (HV.out _).mono ?_
  rintro e V ⟨rfl, hb⟩
  have hS := HS.out.keep hb
  obtain ⟨r0, r1, rf⟩ := box2 hS.r
  have rf0 := rf 0
  have rf1 := rf 1
  have qz := hS.z
  have q0 := hS.a0
  have q1 := hS.a1
  have qb : w.heap.size < V.heap.size := by omega
  have HB := Lib.hid hS.b
  have e1 : ¬ w.heap.size + 1 = V.heap.size := by omega
  have e2 : ¬ w.heap.size + 1 = V.heap.size + 1 := by omega
  have e3 : ¬ w.heap.size + 1 = V.heap.size + 1 + 1 := by omega
  have e4 : ¬ V.heap.size = w.heap.size + 1 := by omega
  have e5 : ¬ V.heap.size + 1 = w.heap.size + 1 := by omega
  have e6 : ¬ V.heap.size + 1 + 1 = w.heap.size + 1 := by omega
  have e7 : ¬ w.heap.size = V.heap.size := by omega
  have e8 : ¬ w.heap.size = V.heap.size + 1 := by omega
  have e9 : ¬ w.heap.size = V.heap.size + 1 + 1 := by omega
  have f1 : w.heap.size + 1 < V.heap.size + 1 := by omega
  have f2 : w.heap.size + 1 < V.heap.size + 1 + 1 := by omega
  have f3 : w.heap.size < V.heap.size + 1 := by omega
  have f4 : w.heap.size < V.heap.size + 1 + 1 := by omega
  clear hb hS rf
  go_wp2
  go_region
  go_wp2
  refine bodyPost_ret (v := .tuple #[.slice none 0 0, tyv 0 ⟨#[]⟩, .bool false]) (by simp [results, Tryz.results34, go_sem, qz, qb, e1, e2, e3, e4, e5, e6, e7, e8, e9, f1, f2, f3, f4, r0, r1, rf0, rf1, q0, q1]) rfl ⟨none, rfl, .inl rfl, ?_⟩
  repeat' (first | exact HB.out | apply Below.setCell | apply Below.alloc | apply Below.drew)
  all_goals (try simp)
  all_goals (try omega)
set_option maxRecDepth 100000 in
set_option maxHeartbeats 4000000 in
theorem rmiss_bad (k : Int) (s nm : ByteArray) (w : World) (hm : s.size ≤ maxLen) (hv : vB k s = false) : Calls Tryz.prog 34 #[tyv k s, .string nm] w (Mt w [] 0 false) := by
  have HV : Hid (∀ V, Calls Tryz.prog 22 #[tyv k s] V fun e w' => e = .returned (.bool false) ∧ Below V.heap.size V w') := Lib.hid fun V => hv ▸ rvalid_any k s V hm
  have HS := Lib.hid (Sh.start w k s)
  clear hm hv
  go_enter Tryz.func34, Tryz.ntmps34
  go_wp2_with fail
  refine (HV.out _).mono ?_
  rintro e V ⟨rfl, hb⟩
  have hS := HS.out.keep hb
  obtain ⟨r0, r1, rf⟩ := box2 hS.r
  have rf0 := rf 0
  have rf1 := rf 1
  have qz := hS.z
  have q0 := hS.a0
  have q1 := hS.a1
  have qb : w.heap.size < V.heap.size := by omega
  have HB := Lib.hid hS.b
  have e1 : ¬ w.heap.size + 1 = V.heap.size := by omega
  have e2 : ¬ w.heap.size + 1 = V.heap.size + 1 := by omega
  have e3 : ¬ w.heap.size + 1 = V.heap.size + 1 + 1 := by omega
  have e4 : ¬ V.heap.size = w.heap.size + 1 := by omega
  have e5 : ¬ V.heap.size + 1 = w.heap.size + 1 := by omega
  have e6 : ¬ V.heap.size + 1 + 1 = w.heap.size + 1 := by omega
  have e7 : ¬ w.heap.size = V.heap.size := by omega
  have e8 : ¬ w.heap.size = V.heap.size + 1 := by omega
  have e9 : ¬ w.heap.size = V.heap.size + 1 + 1 := by omega
  have f1 : w.heap.size + 1 < V.heap.size + 1 := by omega
  have f2 : w.heap.size + 1 < V.heap.size + 1 + 1 := by omega
  have f3 : w.heap.size < V.heap.size + 1 := by omega
  have f4 : w.heap.size < V.heap.size + 1 + 1 := by omega
  clear hb hS rf
  go_wp2
  refine bodyPost_ret (v := .tuple #[.slice none 0 0, tyv 0 ⟨#[]⟩, .bool false]) (by simp [results, Tryz.results34, go_sem, qz, qb, e1, e2, e3, e4, e5, e6, e7, e8, e9, f1, f2, f3, f4, r0, r1, rf0, rf1, q0, q1]) rfl ⟨none, rfl, .inl rfl, ?_⟩
  repeat' (first | exact HB.out | apply Below.setCell | apply Below.alloc | apply Below.drew)
  all_goals (try simp)
  all_goals (try omega)
end Go.Proofs.YtijhdlmnoinfiaaGreatDoor
