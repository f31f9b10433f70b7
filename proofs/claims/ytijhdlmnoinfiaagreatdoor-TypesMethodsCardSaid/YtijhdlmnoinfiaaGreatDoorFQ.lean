/-
  The walks of the program's Method where there is none.
-/
import Derived.Test.YtijhdlmnoinfiaaGreatDoorFN
import Derived.RegionTactic
import Derived.BigRegion
set_option linter.all false
namespace Go.Proofs.YtijhdlmnoinfiaaGreatDoor
open Go.RowKit T T.Fo Ty
set_option maxRecDepth 100000 in
set_option maxHeartbeats 4000000 in
theorem ymiss_8 (nm : ByteArray) (w : World) (hG : Glob w) (hLock : (nm.toList == [76, 111, 99, 107]) = false) (hUnlock : (nm.toList == [85, 110, 108, 111, 99, 107]) = false) : Calls Tryz.prog 33 #[tyv 8 ⟨#[]⟩, .string nm] w (Mt w [] 0 false) := by
  have hm : (⟨#[]⟩ : ByteArray).size ≤ maxLen := by unfold maxLen; decide
  have HV : Hid (∀ V, Below w.heap.size w V → Calls Tryz.prog 40 #[tyv 8 ⟨#[]⟩] V fun e w' => e = .returned (.bool true) ∧ Below V.heap.size V w') := Lib.hid fun V hV => (vB_k (k := 8) (by omega) (by omega) (by omega)) ▸ yvalid_any 8 ⟨#[]⟩ V hm (glob_below hG hV)
  have HS := Lib.hid (Sh.start w 8 ⟨#[]⟩)
  clear hm hG
  go_enter Tryz.func33, Tryz.ntmps33
  go_wp2_with fail
  refine (plain_any 1 _).mono ?_
  rintro e V0 ⟨rfl, hb⟩
  have hS0 := HS.out.keep hb
  clear hb
  go_wp2_with fail
  refine (plain_any 0 _).mono ?_
  rintro e V ⟨rfl, hb⟩
  have hS := hS0.keep hb
  have HS1 := Lib.hid hS
  have z1 := hS.z
  have z0 : w.heap.size < V.heap.size := by omega
  have a0 := hS.a0
  have a1 := hS.a1
  have n0 : ¬ w.heap.size = V.heap.size := by omega
  have n1 : ¬ w.heap.size = V.heap.size + 1 := by omega
  have y0 : w.heap.size < V.heap.size + 1 := by omega
  clear hb hS0 hS
  go_wp2_with fail
  refine (HV.out _ ((HS1.out.al _).al _).b).mono ?_
  rintro e V2 ⟨rfl, hb⟩
  obtain ⟨⟨x0, x1⟩, ⟨u0, u1⟩, ⟨r0, r1, rf0, rf1⟩, ⟨q0, q1⟩, qz, qv, zz, hB⟩ := mid_m HS1.out hb
  have HB := Lib.hid hB
  have qb : w.heap.size < V2.heap.size := by omega
  have qw : V.heap.size < V2.heap.size := by omega
  have e1 : ¬ w.heap.size + 1 = V2.heap.size := by omega
  have e2 : ¬ V.heap.size = w.heap.size + 1 := by omega
  have e3 : ¬ V.heap.size + 1 = w.heap.size + 1 := by omega
  clear hb hB a0 a1 z1 z0 n0 n1 y0 zz
  go_wp2
  go_region
  go_wp2
  refine bodyPost_ret (v := .tuple #[.slice none 0 0, tyv 0 ⟨#[]⟩, .bool false]) (by simp [results, Tryz.results33, go_sem, qz, qb, qv, qw, e1, e2, e3, r0, r1, rf0, rf1, x0, x1, u0, u1]) rfl ⟨none, rfl, .inl rfl, ?_⟩
  repeat' (first | exact HB.out | apply Below.setCell | apply Below.alloc | apply Below.drew)
  all_goals (try simp)
  all_goals (try omega)
set_option maxRecDepth 100000 in
set_option maxHeartbeats 4000000 in
theorem ymiss_9 (nm : ByteArray) (w : World) (hG : Glob w) (hLock : (nm.toList == [76, 111, 99, 107]) = false) (hUnlock : (nm.toList == [85, 110, 108, 111, 99, 107]) = false) (hRLock : (nm.toList == [82, 76, 111, 99, 107]) = false) (hRUnlock : (nm.toList == [82, 85, 110, 108, 111, 99, 107]) = false) : Calls Tryz.prog 33 #[tyv 9 ⟨#[]⟩, .string nm] w (Mt w [] 0 false) := by
  have hm : (⟨#[]⟩ : ByteArray).size ≤ maxLen := by unfold maxLen; decide
  have HV : Hid (∀ V, Below w.heap.size w V → Calls Tryz.prog 40 #[tyv 9 ⟨#[]⟩] V fun e w' => e = .returned (.bool true) ∧ Below V.heap.size V w') := Lib.hid fun V hV => (vB_k (k := 9) (by omega) (by omega) (by omega)) ▸ yvalid_any 9 ⟨#[]⟩ V hm (glob_below hG hV)
  have HS := Lib.hid (Sh.start w 9 ⟨#[]⟩)
  clear hm hG
  go_enter Tryz.func33, Tryz.ntmps33
  go_wp2_with fail
  refine (plain_any 1 _).mono ?_
  rintro e V0 ⟨rfl, hb⟩
  have hS0 := HS.out.keep hb
  clear hb
  go_wp2_with fail
  refine (plain_any 0 _).mono ?_
  rintro e V ⟨rfl, hb⟩
  have hS := hS0.keep hb
  have HS1 := Lib.hid hS
  have z1 := hS.z
  have z0 : w.heap.size < V.heap.size := by omega
  have a0 := hS.a0
  have a1 := hS.a1
  have n0 : ¬ w.heap.size = V.heap.size := by omega
  have n1 : ¬ w.heap.size = V.heap.size + 1 := by omega
  have y0 : w.heap.size < V.heap.size + 1 := by omega
  clear hb hS0 hS
  go_wp2_with fail
  refine (HV.out _ ((HS1.out.al _).al _).b).mono ?_
  rintro e V2 ⟨rfl, hb⟩
  obtain ⟨⟨x0, x1⟩, ⟨u0, u1⟩, ⟨r0, r1, rf0, rf1⟩, ⟨q0, q1⟩, qz, qv, zz, hB⟩ := mid_m HS1.out hb
  have HB := Lib.hid hB
  have qb : w.heap.size < V2.heap.size := by omega
  have qw : V.heap.size < V2.heap.size := by omega
  have e1 : ¬ w.heap.size + 1 = V2.heap.size := by omega
  have e2 : ¬ V.heap.size = w.heap.size + 1 := by omega
  have e3 : ¬ V.heap.size + 1 = w.heap.size + 1 := by omega
  clear hb hB a0 a1 z1 z0 n0 n1 y0 zz
  go_wp2
  go_region
  go_wp2
  refine bodyPost_ret (v := .tuple #[.slice none 0 0, tyv 0 ⟨#[]⟩, .bool false]) (by simp [results, Tryz.results33, go_sem, qz, qb, qv, qw, e1, e2, e3, r0, r1, rf0, rf1, x0, x1, u0, u1]) rfl ⟨none, rfl, .inl rfl, ?_⟩
  repeat' (first | exact HB.out | apply Below.setCell | apply Below.alloc | apply Below.drew)
  all_goals (try simp)
  all_goals (try omega)
set_option maxRecDepth 100000 in
set_option maxHeartbeats 4000000 in
theorem ymiss_10 (nm : ByteArray) (w : World) (hG : Glob w) (hDone : (nm.toList == [68, 111, 110, 101]) = false) (hWait : (nm.toList == [87, 97, 105, 116]) = false) (hAdd : (nm.toList == [65, 100, 100]) = false) : Calls Tryz.prog 33 #[tyv 10 ⟨#[]⟩, .string nm] w (Mt w [] 0 false) := by
  have hm : (⟨#[]⟩ : ByteArray).size ≤ maxLen := by unfold maxLen; decide
  have HV : Hid (∀ V, Below w.heap.size w V → Calls Tryz.prog 40 #[tyv 10 ⟨#[]⟩] V fun e w' => e = .returned (.bool true) ∧ Below V.heap.size V w') := Lib.hid fun V hV => (vB_k (k := 10) (by omega) (by omega) (by omega)) ▸ yvalid_any 10 ⟨#[]⟩ V hm (glob_below hG hV)
  have HS := Lib.hid (Sh.start w 10 ⟨#[]⟩)
  clear hm hG
  go_enter Tryz.func33, Tryz.ntmps33
  go_wp2_with fail
  refine (plain_any 1 _).mono ?_
  rintro e V0 ⟨rfl, hb⟩
  have hS0 := HS.out.keep hb
  clear hb
  go_wp2_with fail
  refine (plain_any 0 _).mono ?_
  rintro e V ⟨rfl, hb⟩
  have hS := hS0.keep hb
  have HS1 := Lib.hid hS
  have z1 := hS.z
  have z0 : w.heap.size < V.heap.size := by omega
  have a0 := hS.a0
  have a1 := hS.a1
  have n0 : ¬ w.heap.size = V.heap.size := by omega
  have n1 : ¬ w.heap.size = V.heap.size + 1 := by omega
  have y0 : w.heap.size < V.heap.size + 1 := by omega
  clear hb hS0 hS
  go_wp2_with fail
  refine (HV.out _ ((HS1.out.al _).al _).b).mono ?_
  rintro e V2 ⟨rfl, hb⟩
  obtain ⟨⟨x0, x1⟩, ⟨u0, u1⟩, ⟨r0, r1, rf0, rf1⟩, ⟨q0, q1⟩, qz, qv, zz, hB⟩ := mid_m HS1.out hb
  have HB := Lib.hid hB
  have qb : w.heap.size < V2.heap.size := by omega
  have qw : V.heap.size < V2.heap.size := by omega
  have e1 : ¬ w.heap.size + 1 = V2.heap.size := by omega
  have e2 : ¬ V.heap.size = w.heap.size + 1 := by omega
  have e3 : ¬ V.heap.size + 1 = w.heap.size + 1 := by omega
  clear hb hB a0 a1 z1 z0 n0 n1 y0 zz
  go_wp2
  go_region
  go_wp2
  refine bodyPost_ret (v := .tuple #[.slice none 0 0, tyv 0 ⟨#[]⟩, .bool false]) (by simp [results, Tryz.results33, go_sem, qz, qb, qv, qw, e1, e2, e3, r0, r1, rf0, rf1, x0, x1, u0, u1]) rfl ⟨none, rfl, .inl rfl, ?_⟩
  repeat' (first | exact HB.out | apply Below.setCell | apply Below.alloc | apply Below.drew)
  all_goals (try simp)
  all_goals (try omega)
set_option maxRecDepth 100000 in
set_option maxHeartbeats 4000000 in
theorem ymiss_11 (nm : ByteArray) (w : World) (hG : Glob w) (hDo : (nm.toList == [68, 111]) = false) : Calls Tryz.prog 33 #[tyv 11 ⟨#[]⟩, .string nm] w (Mt w [] 0 false) := by
  have hm : (⟨#[]⟩ : ByteArray).size ≤ maxLen := by unfold maxLen; decide
  have HV : Hid (∀ V, Below w.heap.size w V → Calls Tryz.prog 40 #[tyv 11 ⟨#[]⟩] V fun e w' => e = .returned (.bool true) ∧ Below V.heap.size V w') := Lib.hid fun V hV => (vB_k (k := 11) (by omega) (by omega) (by omega)) ▸ yvalid_any 11 ⟨#[]⟩ V hm (glob_below hG hV)
  have HS := Lib.hid (Sh.start w 11 ⟨#[]⟩)
  clear hm hG
  go_enter Tryz.func33, Tryz.ntmps33
  go_wp2_with fail
  refine (plain_any 1 _).mono ?_
  rintro e V0 ⟨rfl, hb⟩
  have hS0 := HS.out.keep hb
  clear hb
  go_wp2_with fail
  refine (plain_any 0 _).mono ?_
  rintro e V ⟨rfl, hb⟩
  have hS := hS0.keep hb
  have HS1 := Lib.hid hS
  have z1 := hS.z
  have z0 : w.heap.size < V.heap.size := by omega
  have a0 := hS.a0
  have a1 := hS.a1
  have n0 : ¬ w.heap.size = V.heap.size := by omega
  have n1 : ¬ w.heap.size = V.heap.size + 1 := by omega
  have y0 : w.heap.size < V.heap.size + 1 := by omega
  clear hb hS0 hS
  go_wp2_with fail
  refine (HV.out _ ((HS1.out.al _).al _).b).mono ?_
  rintro e V2 ⟨rfl, hb⟩
  obtain ⟨⟨x0, x1⟩, ⟨u0, u1⟩, ⟨r0, r1, rf0, rf1⟩, ⟨q0, q1⟩, qz, qv, zz, hB⟩ := mid_m HS1.out hb
  have HB := Lib.hid hB
  have qb : w.heap.size < V2.heap.size := by omega
  have qw : V.heap.size < V2.heap.size := by omega
  have e1 : ¬ w.heap.size + 1 = V2.heap.size := by omega
  have e2 : ¬ V.heap.size = w.heap.size + 1 := by omega
  have e3 : ¬ V.heap.size + 1 = w.heap.size + 1 := by omega
  clear hb hB a0 a1 z1 z0 n0 n1 y0 zz
  go_wp2
  go_region
  go_wp2
  refine bodyPost_ret (v := .tuple #[.slice none 0 0, tyv 0 ⟨#[]⟩, .bool false]) (by simp [results, Tryz.results33, go_sem, qz, qb, qv, qw, e1, e2, e3, r0, r1, rf0, rf1, x0, x1, u0, u1]) rfl ⟨none, rfl, .inl rfl, ?_⟩
  repeat' (first | exact HB.out | apply Below.setCell | apply Below.alloc | apply Below.drew)
  all_goals (try simp)
  all_goals (try omega)
set_option maxRecDepth 100000 in
set_option maxHeartbeats 4000000 in
theorem ymiss_12 (nm : ByteArray) (w : World) (hG : Glob w) (hLoad : (nm.toList == [76, 111, 97, 100]) = false) (hStore : (nm.toList == [83, 116, 111, 114, 101]) = false) (hAdd : (nm.toList == [65, 100, 100]) = false) (hCompareAndSwap : (nm.toList == [67, 111, 109, 112, 97, 114, 101, 65, 110, 100, 83, 119, 97, 112]) = false) : Calls Tryz.prog 33 #[tyv 12 ⟨#[]⟩, .string nm] w (Mt w [] 0 false) := by
  have hm : (⟨#[]⟩ : ByteArray).size ≤ maxLen := by unfold maxLen; decide
  have HV : Hid (∀ V, Below w.heap.size w V → Calls Tryz.prog 40 #[tyv 12 ⟨#[]⟩] V fun e w' => e = .returned (.bool true) ∧ Below V.heap.size V w') := Lib.hid fun V hV => (vB_k (k := 12) (by omega) (by omega) (by omega)) ▸ yvalid_any 12 ⟨#[]⟩ V hm (glob_below hG hV)
  have HS := Lib.hid (Sh.start w 12 ⟨#[]⟩)
  clear hm hG
  go_enter Tryz.func33, Tryz.ntmps33
  go_wp2_with fail
  refine (plain_any 1 _).mono ?_
  rintro e V0 ⟨rfl, hb⟩
  have hS0 := HS.out.keep hb
  clear hb
  go_wp2_with fail
  refine (plain_any 0 _).mono ?_
  rintro e V ⟨rfl, hb⟩
  have hS := hS0.keep hb
  have HS1 := Lib.hid hS
  have z1 := hS.z
  have z0 : w.heap.size < V.heap.size := by omega
  have a0 := hS.a0
  have a1 := hS.a1
  have n0 : ¬ w.heap.size = V.heap.size := by omega
  have n1 : ¬ w.heap.size = V.heap.size + 1 := by omega
  have y0 : w.heap.size < V.heap.size + 1 := by omega
  clear hb hS0 hS
  go_wp2_with fail
  refine (HV.out _ ((HS1.out.al _).al _).b).mono ?_
  rintro e V2 ⟨rfl, hb⟩
  obtain ⟨⟨x0, x1⟩, ⟨u0, u1⟩, ⟨r0, r1, rf0, rf1⟩, ⟨q0, q1⟩, qz, qv, zz, hB⟩ := mid_m HS1.out hb
  have HB := Lib.hid hB
  have qb : w.heap.size < V2.heap.size := by omega
  have qw : V.heap.size < V2.heap.size := by omega
  have e1 : ¬ w.heap.size + 1 = V2.heap.size := by omega
  have e2 : ¬ V.heap.size = w.heap.size + 1 := by omega
  have e3 : ¬ V.heap.size + 1 = w.heap.size + 1 := by omega
  clear hb hB a0 a1 z1 z0 n0 n1 y0 zz
  go_wp2
  go_region
  go_wp2
  refine bodyPost_ret (v := .tuple #[.slice none 0 0, tyv 0 ⟨#[]⟩, .bool false]) (by simp [results, Tryz.results33, go_sem, qz, qb, qv, qw, e1, e2, e3, r0, r1, rf0, rf1, x0, x1, u0, u1]) rfl ⟨none, rfl, .inl rfl, ?_⟩
  repeat' (first | exact HB.out | apply Below.setCell | apply Below.alloc | apply Below.drew)
  all_goals (try simp)
  all_goals (try omega)
set_option maxRecDepth 100000 in
set_option maxHeartbeats 4000000 in
theorem ymiss_k (k : Int) (s nm : ByteArray) (w : World) (hm : s.size ≤ maxLen) (hG : Glob w) (hv : vB k s = true) (h8 : (k == 8) = false) (h9 : (k == 9) = false) (h10 : (k == 10) = false) (h11 : (k == 11) = false) (h12 : (k == 12) = false) : Calls Tryz.prog 33 #[tyv k s, .string nm] w (Mt w [] 0 false) := by
  have HV : Hid (∀ V, Below w.heap.size w V → Calls Tryz.prog 40 #[tyv k s] V fun e w' => e = .returned (.bool true) ∧ Below V.heap.size V w') := Lib.hid fun V hV => hv ▸ yvalid_any k s V hm (glob_below hG hV)
  have HS := Lib.hid (Sh.start w k s)
  clear hm hG hv
  go_enter Tryz.func33, Tryz.ntmps33
  go_wp2_with fail
  refine (plain_any 1 _).mono ?_
  rintro e V0 ⟨rfl, hb⟩
  have hS0 := HS.out.keep hb
  clear hb
  go_wp2_with fail
  refine (plain_any 0 _).mono ?_
  rintro e V ⟨rfl, hb⟩
  have hS := hS0.keep hb
  have HS1 := Lib.hid hS
  have z1 := hS.z
  have z0 : w.heap.size < V.heap.size := by omega
  have a0 := hS.a0
  have a1 := hS.a1
  have n0 : ¬ w.heap.size = V.heap.size := by omega
  have n1 : ¬ w.heap.size = V.heap.size + 1 := by omega
  have y0 : w.heap.size < V.heap.size + 1 := by omega
  clear hb hS0 hS
  go_wp2_with fail
  refine (HV.out _ ((HS1.out.al _).al _).b).mono ?_
  rintro e V2 ⟨rfl, hb⟩
  obtain ⟨⟨x0, x1⟩, ⟨u0, u1⟩, ⟨r0, r1, rf0, rf1⟩, ⟨q0, q1⟩, qz, qv, zz, hB⟩ := mid_m HS1.out hb
  have HB := Lib.hid hB
  have qb : w.heap.size < V2.heap.size := by omega
  have qw : V.heap.size < V2.heap.size := by omega
  have e1 : ¬ w.heap.size + 1 = V2.heap.size := by omega
  have e2 : ¬ V.heap.size = w.heap.size + 1 := by omega
  have e3 : ¬ V.heap.size + 1 = w.heap.size + 1 := by omega
  clear hb hB a0 a1 z1 z0 n0 n1 y0 zz
  go_wp2
  go_region
  go_wp2
  refine bodyPost_ret (v := .tuple #[.slice none 0 0, tyv 0 ⟨#[]⟩, .bool false]) (by simp [results, Tryz.results33, go_sem, qz, qb, qv, qw, e1, e2, e3, r0, r1, rf0, rf1, x0, x1, u0, u1]) rfl ⟨none, rfl, .inl rfl, ?_⟩
  repeat' (first | exact HB.out | apply Below.setCell | apply Below.alloc | apply Below.drew)
  all_goals (try simp)
  all_goals (try omega)
set_option maxRecDepth 100000 in
set_option maxHeartbeats 4000000 in
theorem ymiss_bad (k : Int) (s nm : ByteArray) (w : World) (hm : s.size ≤ maxLen) (hG : Glob w) (hv : vB k s = false) : Calls Tryz.prog 33 #[tyv k s, .string nm] w (Mt w [] 0 false) := by
  have HV : Hid (∀ V, Below w.heap.size w V → Calls Tryz.prog 40 #[tyv k s] V fun e w' => e = .returned (.bool false) ∧ Below V.heap.size V w') := Lib.hid fun V hV => hv ▸ yvalid_any k s V hm (glob_below hG hV)
  have HS := Lib.hid (Sh.start w k s)
  clear hm hG hv
  go_enter Tryz.func33, Tryz.ntmps33
  go_wp2_with fail
  refine (plain_any 1 _).mono ?_
  rintro e V0 ⟨rfl, hb⟩
  have hS0 := HS.out.keep hb
  clear hb
  go_wp2_with fail
  refine (plain_any 0 _).mono ?_
  rintro e V ⟨rfl, hb⟩
  have hS := hS0.keep hb
  have HS1 := Lib.hid hS
  have z1 := hS.z
  have z0 : w.heap.size < V.heap.size := by omega
  have a0 := hS.a0
  have a1 := hS.a1
  have n0 : ¬ w.heap.size = V.heap.size := by omega
  have n1 : ¬ w.heap.size = V.heap.size + 1 := by omega
  have y0 : w.heap.size < V.heap.size + 1 := by omega
  clear hb hS0 hS
  go_wp2_with fail
  refine (HV.out _ ((HS1.out.al _).al _).b).mono ?_
  rintro e V2 ⟨rfl, hb⟩
  obtain ⟨⟨x0, x1⟩, ⟨u0, u1⟩, ⟨r0, r1, rf0, rf1⟩, ⟨q0, q1⟩, qz, qv, zz, hB⟩ := mid_m HS1.out hb
  have HB := Lib.hid hB
  have qb : w.heap.size < V2.heap.size := by omega
  have qw : V.heap.size < V2.heap.size := by omega
  have e1 : ¬ w.heap.size + 1 = V2.heap.size := by omega
  have e2 : ¬ V.heap.size = w.heap.size + 1 := by omega
  have e3 : ¬ V.heap.size + 1 = w.heap.size + 1 := by omega
  clear hb hB a0 a1 z1 z0 n0 n1 y0 zz
  go_wp2
  go_region
  go_wp2
  refine bodyPost_ret (v := .tuple #[.slice none 0 0, tyv 0 ⟨#[]⟩, .bool false]) (by simp [results, Tryz.results33, go_sem, qz, qb, qv, qw, e1, e2, e3, r0, r1, rf0, rf1, x0, x1, u0, u1]) rfl ⟨none, rfl, .inl rfl, ?_⟩
  repeat' (first | exact HB.out | apply Below.setCell | apply Below.alloc | apply Below.drew)
  all_goals (try simp)
  all_goals (try omega)
end Go.Proofs.YtijhdlmnoinfiaaGreatDoor
