/-
  The walk of the specification's Of.
-/
import Derived.Test.YtijhdlmnoinfiaaGreatDoorHA
set_option linter.all false
namespace Go.Proofs.YtijhdlmnoinfiaaGreatDoor
open Go.RowKit T T.Fo Ty
def Res (w : World) (k : Int) (s : ByteArray) (b : Bool) (e : Ending) (w' : World) : Prop := e = .returned (.tuple #[tyv k s, .bool b]) ∧ Below w.heap.size w w'
/-- A node's box, and the result's, zero. -/
structure Ob (w : World) (kd : Int) (tx : ByteArray) (V : World) : Prop where
  z : w.heap.size + 1 < V.heap.size
  a0 : V.cell? ⟨w.heap.size, 0, none⟩ = some (.int .i64 kd)
  a1 : V.cell? ⟨w.heap.size, 1, none⟩ = some (.string tx)
  r : V.heap[w.heap.size + 1]? = some (.cells #[.int .i64 0, .string ⟨#[]⟩] 24 (0, 0))
  b : Below w.heap.size w V
theorem Ob.start (w : World) (kd : Int) (tx : ByteArray) (nu po tk rf up : Int) (tn : ByteArray) (A : Option Addr) (n cap : Nat) : Ob w kd tx ((w.alloc (.cells #[.int .i64 kd, .string tx, .int .i64 nu, .int .i64 po, .slice A n cap, .int .i64 tk, .string tn, .int .i64 rf, .int .i64 up] 26)).alloc (.cells #[.int .i64 0, .string ⟨#[]⟩] 24)) := by
  have h1 := heap_alloc_new w (.cells #[.int .i64 kd, .string tx, .int .i64 nu, .int .i64 po, .slice A n cap, .int .i64 tk, .string tn, .int .i64 rf, .int .i64 up] 26)
  have h2 : ((w.alloc (.cells #[.int .i64 kd, .string tx, .int .i64 nu, .int .i64 po, .slice A n cap, .int .i64 tk, .string tn, .int .i64 rf, .int .i64 up] 26)).alloc (.cells #[.int .i64 0, .string ⟨#[]⟩] 24)).heap[w.heap.size]? = _ := (Below.heap_alloc _ _ _ (by simp)).trans h1
  refine ⟨by simp, by simp only [World.cell?, h2]; rfl, by simp only [World.cell?, h2]; rfl, ?_, (b1 w _).alloc (by simp) _⟩
  have := heap_alloc_new (w.alloc (.cells #[.int .i64 kd, .string tx, .int .i64 nu, .int .i64 po, .slice A n cap, .int .i64 tk, .string tn, .int .i64 rf, .int .i64 up] 26)) (.cells #[.int .i64 0, .string ⟨#[]⟩] 24)
  simpa using this
theorem Ob.keep {w V V' : World} {kd : Int} {tx : ByteArray} (h : Ob w kd tx V) (hb : Below V.heap.size V V') : Ob w kd tx V' :=
  have z := h.z
  ⟨Nat.lt_of_lt_of_le z hb.size, (hb.cell (p := ⟨w.heap.size, 0, none⟩) (by show w.heap.size < _; omega)).trans h.a0, (hb.cell (p := ⟨w.heap.size, 1, none⟩) (by show w.heap.size < _; omega)).trans h.a1, (hb.block _ z).trans h.r, h.b.trans (hb.mono (by omega))⟩
set_option maxRecDepth 100000 in
set_option maxHeartbeats 4000000 in
theorem rOf_A (nu po tk rf up : Int) (tn : ByteArray) (A : Option Addr) (cap : Nat) (w : World) : Calls Tryz.prog 15 #[.agg #[.int .i64 9, .string ⟨#[]⟩, .int .i64 nu, .int .i64 po, .slice A 0 cap, .int .i64 tk, .string tn, .int .i64 rf, .int .i64 up]] w (Res w 0 ⟨#[]⟩ true) := by
  go_enter Tryz.func15, Tryz.ntmps15
  go_wp2
  refine bodyPost_ret (v := .tuple #[tyv 0 ⟨#[]⟩, .bool true]) (by simp [results, Tryz.results15, go_sem]) rfl ⟨rfl, ?_⟩
  repeat' (first | exact Below.refl _ _ | exact HB.out | apply Below.setCell | apply Below.alloc | apply Below.drew)
  all_goals (try simp)
  all_goals (try omega)
set_option maxRecDepth 100000 in
set_option maxHeartbeats 4000000 in
theorem rOf_B1 (nu po tk rf up : Int) (tn : ByteArray) (A : Option Addr) (cap : Nat) (kd : Int) (tx : ByteArray) (n : Nat) (h9 : (kd == 9) = false) (w : World) (H : Hid (∀ V, Below w.heap.size w V → Calls Tryz.prog 39 #[.agg #[.int .i64 kd, .string tx, .int .i64 nu, .int .i64 po, .slice A n cap, .int .i64 tk, .string tn, .int .i64 rf, .int .i64 up]] V fun e w' => e = .returned (.bool false) ∧ Below V.heap.size V w')) : Calls Tryz.prog 15 #[.agg #[.int .i64 kd, .string tx, .int .i64 nu, .int .i64 po, .slice A n cap, .int .i64 tk, .string tn, .int .i64 rf, .int .i64 up]] w (Res w 0 ⟨#[]⟩ false) := by
  have HS := Lib.hid (Ob.start w kd tx nu po tk rf up tn A n cap)
  go_enter Tryz.func15, Tryz.ntmps15
  go_wp2_with fail
  refine (H.out _ HS.out.b).mono ?_
  rintro e V ⟨rfl, hb⟩
  have hS := HS.out.keep hb
  obtain ⟨r0, r1, rf⟩ := box2 hS.r
  have rf0 := rf 0
  have rf1 := rf 1
  have qz := hS.z
  have q0 := hS.a0
  have q1 := hS.a1
  have qb : w.heap.size < V.heap.size := by omega
  have e1 : ¬ w.heap.size = w.heap.size + 1 := by omega
  have HB := Lib.hid hS.b
  clear rf
  clear hb hS
  go_wp2
  refine bodyPost_ret (v := .tuple #[tyv 0 ⟨#[]⟩, .bool false]) (by simp [results, Tryz.results15, go_sem, qz, qb, r0, r1, rf0, rf1, q0, q1, e1]) rfl ⟨rfl, ?_⟩
  repeat' (first | exact Below.refl _ _ | exact HB.out | apply Below.setCell | apply Below.alloc | apply Below.drew)
  all_goals (try simp)
  all_goals (try omega)
set_option maxRecDepth 100000 in
set_option maxHeartbeats 4000000 in
theorem rOf_B2 (nu po tk rf up : Int) (tn : ByteArray) (A : Option Addr) (cap : Nat) (tx : ByteArray) (n : Nat) (ht : (tx.toList == []) = false) (ht2 : tx.toList.isEmpty = false) (w : World) (H : Hid (∀ V, Below w.heap.size w V → Calls Tryz.prog 39 #[.agg #[.int .i64 9, .string tx, .int .i64 nu, .int .i64 po, .slice A n cap, .int .i64 tk, .string tn, .int .i64 rf, .int .i64 up]] V fun e w' => e = .returned (.bool false) ∧ Below V.heap.size V w')) : Calls Tryz.prog 15 #[.agg #[.int .i64 9, .string tx, .int .i64 nu, .int .i64 po, .slice A n cap, .int .i64 tk, .string tn, .int .i64 rf, .int .i64 up]] w (Res w 0 ⟨#[]⟩ false) := by
  have HS := Lib.hid (Ob.start w 9 tx nu po tk rf up tn A n cap)
  go_enter Tryz.func15, Tryz.ntmps15
  go_wp2_with fail
  refine (H.out _ HS.out.b).mono ?_
  rintro e V ⟨rfl, hb⟩
  have hS := HS.out.keep hb
  obtain ⟨r0, r1, rf⟩ := box2 hS.r
  have rf0 := rf 0
  have rf1 := rf 1
  have qz := hS.z
  have q0 := hS.a0
  have q1 := hS.a1
  have qb : w.heap.size < V.heap.size := by omega
  have e1 : ¬ w.heap.size = w.heap.size + 1 := by omega
  have HB := Lib.hid hS.b
  clear rf
  clear hb hS
  go_wp2
  refine bodyPost_ret (v := .tuple #[tyv 0 ⟨#[]⟩, .bool false]) (by simp [results, Tryz.results15, go_sem, qz, qb, r0, r1, rf0, rf1, q0, q1, e1]) rfl ⟨rfl, ?_⟩
  repeat' (first | exact Below.refl _ _ | exact HB.out | apply Below.setCell | apply Below.alloc | apply Below.drew)
  all_goals (try simp)
  all_goals (try omega)
set_option maxRecDepth 100000 in
set_option maxHeartbeats 4000000 in
theorem rOf_B3 (nu po tk rf up : Int) (tn : ByteArray) (A : Option Addr) (cap : Nat) (n : Nat) (h0 : ((n : Int) == 0) = false) (w : World) (H : Hid (∀ V, Below w.heap.size w V → Calls Tryz.prog 39 #[.agg #[.int .i64 9, .string ⟨#[]⟩, .int .i64 nu, .int .i64 po, .slice A n cap, .int .i64 tk, .string tn, .int .i64 rf, .int .i64 up]] V fun e w' => e = .returned (.bool false) ∧ Below V.heap.size V w')) : Calls Tryz.prog 15 #[.agg #[.int .i64 9, .string ⟨#[]⟩, .int .i64 nu, .int .i64 po, .slice A n cap, .int .i64 tk, .string tn, .int .i64 rf, .int .i64 up]] w (Res w 0 ⟨#[]⟩ false) := by
  have HS := Lib.hid (Ob.start w 9 ⟨#[]⟩ nu po tk rf up tn A n cap)
  go_enter Tryz.func15, Tryz.ntmps15
  go_wp2_with fail
  refine (H.out _ HS.out.b).mono ?_
  rintro e V ⟨rfl, hb⟩
  have hS := HS.out.keep hb
  obtain ⟨r0, r1, rf⟩ := box2 hS.r
  have rf0 := rf 0
  have rf1 := rf 1
  have qz := hS.z
  have q0 := hS.a0
  have q1 := hS.a1
  have qb : w.heap.size < V.heap.size := by omega
  have e1 : ¬ w.heap.size = w.heap.size + 1 := by omega
  have HB := Lib.hid hS.b
  clear rf
  clear hb hS
  go_wp2
  refine bodyPost_ret (v := .tuple #[tyv 0 ⟨#[]⟩, .bool false]) (by simp [results, Tryz.results15, go_sem, qz, qb, r0, r1, rf0, rf1, q0, q1, e1]) rfl ⟨rfl, ?_⟩
  repeat' (first | exact Below.refl _ _ | exact HB.out | apply Below.setCell | apply Below.alloc | apply Below.drew)
  all_goals (try simp)
  all_goals (try omega)
set_option maxRecDepth 100000 in
set_option maxHeartbeats 4000000 in
theorem rOf_D (nu po tk rf up : Int) (tn : ByteArray) (A : Option Addr) (cap : Nat) (tx : ByteArray) (n : Nat) (w : World) (H : Hid (∀ V, Below w.heap.size w V → Calls Tryz.prog 39 #[.agg #[.int .i64 8, .string tx, .int .i64 nu, .int .i64 po, .slice A n cap, .int .i64 tk, .string tn, .int .i64 rf, .int .i64 up]] V fun e w' => e = .returned (.bool true) ∧ Below V.heap.size V w')) : Calls Tryz.prog 15 #[.agg #[.int .i64 8, .string tx, .int .i64 nu, .int .i64 po, .slice A n cap, .int .i64 tk, .string tn, .int .i64 rf, .int .i64 up]] w (Res w 4 tx true) := by
  have HS := Lib.hid (Ob.start w 8 tx nu po tk rf up tn A n cap)
  go_enter Tryz.func15, Tryz.ntmps15
  go_wp2_with fail
  refine (H.out _ HS.out.b).mono ?_
  rintro e V ⟨rfl, hb⟩
  have hS := HS.out.keep hb
  obtain ⟨r0, r1, rf⟩ := box2 hS.r
  have rf0 := rf 0
  have rf1 := rf 1
  have qz := hS.z
  have q0 := hS.a0
  have q1 := hS.a1
  have qb : w.heap.size < V.heap.size := by omega
  have e1 : ¬ w.heap.size = w.heap.size + 1 := by omega
  have HB := Lib.hid hS.b
  clear rf
  clear hb hS
  go_wp2
  refine bodyPost_ret (v := .tuple #[tyv 4 tx, .bool true]) (by simp [results, Tryz.results15, go_sem, qz, qb, r0, r1, rf0, rf1, q0, q1, e1]) rfl ⟨rfl, ?_⟩
  repeat' (first | exact Below.refl _ _ | exact HB.out | apply Below.setCell | apply Below.alloc | apply Below.drew)
  all_goals (try simp)
  all_goals (try omega)
set_option maxRecDepth 100000 in
set_option maxHeartbeats 4000000 in
theorem rOf_E1 (nu po tk rf up : Int) (tn : ByteArray) (A : Option Addr) (cap : Nat) (n : Nat) (w : World) (H : Hid (∀ V, Below w.heap.size w V → Calls Tryz.prog 39 #[.agg #[.int .i64 7, .string ⟨#[105, 110, 116]⟩, .int .i64 nu, .int .i64 po, .slice A n cap, .int .i64 tk, .string tn, .int .i64 rf, .int .i64 up]] V fun e w' => e = .returned (.bool true) ∧ Below V.heap.size V w')) : Calls Tryz.prog 15 #[.agg #[.int .i64 7, .string ⟨#[105, 110, 116]⟩, .int .i64 nu, .int .i64 po, .slice A n cap, .int .i64 tk, .string tn, .int .i64 rf, .int .i64 up]] w (Res w 1 ⟨#[]⟩ true) := by
  have HS := Lib.hid (Ob.start w 7 ⟨#[105, 110, 116]⟩ nu po tk rf up tn A n cap)
  go_enter Tryz.func15, Tryz.ntmps15
  go_wp2_with fail
  refine (H.out _ HS.out.b).mono ?_
  rintro e V ⟨rfl, hb⟩
  have hS := HS.out.keep hb
  obtain ⟨r0, r1, rf⟩ := box2 hS.r
  have rf0 := rf 0
  have rf1 := rf 1
  have qz := hS.z
  have q0 := hS.a0
  have q1 := hS.a1
  have qb : w.heap.size < V.heap.size := by omega
  have e1 : ¬ w.heap.size = w.heap.size + 1 := by omega
  have HB := Lib.hid hS.b
  clear rf
  clear hb hS
  go_wp2
  refine bodyPost_ret (v := .tuple #[tyv 1 ⟨#[]⟩, .bool true]) (by simp [results, Tryz.results15, go_sem, qz, qb, r0, r1, rf0, rf1, q0, q1, e1]) rfl ⟨rfl, ?_⟩
  repeat' (first | exact Below.refl _ _ | exact HB.out | apply Below.setCell | apply Below.alloc | apply Below.drew)
  all_goals (try simp)
  all_goals (try omega)
set_option maxRecDepth 100000 in
set_option maxHeartbeats 4000000 in
theorem rOf_E2 (nu po tk rf up : Int) (tn : ByteArray) (A : Option Addr) (cap : Nat) (n : Nat) (w : World) (H : Hid (∀ V, Below w.heap.size w V → Calls Tryz.prog 39 #[.agg #[.int .i64 7, .string ⟨#[98, 111, 111, 108]⟩, .int .i64 nu, .int .i64 po, .slice A n cap, .int .i64 tk, .string tn, .int .i64 rf, .int .i64 up]] V fun e w' => e = .returned (.bool true) ∧ Below V.heap.size V w')) : Calls Tryz.prog 15 #[.agg #[.int .i64 7, .string ⟨#[98, 111, 111, 108]⟩, .int .i64 nu, .int .i64 po, .slice A n cap, .int .i64 tk, .string tn, .int .i64 rf, .int .i64 up]] w (Res w 2 ⟨#[]⟩ true) := by
  have HS := Lib.hid (Ob.start w 7 ⟨#[98, 111, 111, 108]⟩ nu po tk rf up tn A n cap)
  go_enter Tryz.func15, Tryz.ntmps15
  go_wp2_with fail
  refine (H.out _ HS.out.b).mono ?_
  rintro e V ⟨rfl, hb⟩
  have hS := HS.out.keep hb
  obtain ⟨r0, r1, rf⟩ := box2 hS.r
  have rf0 := rf 0
  have rf1 := rf 1
  have qz := hS.z
  have q0 := hS.a0
  have q1 := hS.a1
  have qb : w.heap.size < V.heap.size := by omega
  have e1 : ¬ w.heap.size = w.heap.size + 1 := by omega
  have HB := Lib.hid hS.b
  clear rf
  clear hb hS
  go_wp2
  refine bodyPost_ret (v := .tuple #[tyv 2 ⟨#[]⟩, .bool true]) (by simp [results, Tryz.results15, go_sem, qz, qb, r0, r1, rf0, rf1, q0, q1, e1]) rfl ⟨rfl, ?_⟩
  repeat' (first | exact Below.refl _ _ | exact HB.out | apply Below.setCell | apply Below.alloc | apply Below.drew)
  all_goals (try simp)
  all_goals (try omega)
set_option maxRecDepth 100000 in
set_option maxHeartbeats 4000000 in
theorem rOf_E5 (nu po tk rf up : Int) (tn : ByteArray) (A : Option Addr) (cap : Nat) (n : Nat) (w : World) (H : Hid (∀ V, Below w.heap.size w V → Calls Tryz.prog 39 #[.agg #[.int .i64 7, .string ⟨#[91, 93, 105, 110, 116]⟩, .int .i64 nu, .int .i64 po, .slice A n cap, .int .i64 tk, .string tn, .int .i64 rf, .int .i64 up]] V fun e w' => e = .returned (.bool true) ∧ Below V.heap.size V w')) : Calls Tryz.prog 15 #[.agg #[.int .i64 7, .string ⟨#[91, 93, 105, 110, 116]⟩, .int .i64 nu, .int .i64 po, .slice A n cap, .int .i64 tk, .string tn, .int .i64 rf, .int .i64 up]] w (Res w 5 ⟨#[]⟩ true) := by
  have HS := Lib.hid (Ob.start w 7 ⟨#[91, 93, 105, 110, 116]⟩ nu po tk rf up tn A n cap)
  go_enter Tryz.func15, Tryz.ntmps15
  go_wp2_with fail
  refine (H.out _ HS.out.b).mono ?_
  rintro e V ⟨rfl, hb⟩
  have hS := HS.out.keep hb
  obtain ⟨r0, r1, rf⟩ := box2 hS.r
  have rf0 := rf 0
  have rf1 := rf 1
  have qz := hS.z
  have q0 := hS.a0
  have q1 := hS.a1
  have qb : w.heap.size < V.heap.size := by omega
  have e1 : ¬ w.heap.size = w.heap.size + 1 := by omega
  have HB := Lib.hid hS.b
  clear rf
  clear hb hS
  go_wp2
  refine bodyPost_ret (v := .tuple #[tyv 5 ⟨#[]⟩, .bool true]) (by simp [results, Tryz.results15, go_sem, qz, qb, r0, r1, rf0, rf1, q0, q1, e1]) rfl ⟨rfl, ?_⟩
  repeat' (first | exact Below.refl _ _ | exact HB.out | apply Below.setCell | apply Below.alloc | apply Below.drew)
  all_goals (try simp)
  all_goals (try omega)
set_option maxRecDepth 100000 in
set_option maxHeartbeats 4000000 in
theorem rOf_E6 (nu po tk rf up : Int) (tn : ByteArray) (A : Option Addr) (cap : Nat) (n : Nat) (w : World) (H : Hid (∀ V, Below w.heap.size w V → Calls Tryz.prog 39 #[.agg #[.int .i64 7, .string ⟨#[99, 104, 97, 110]⟩, .int .i64 nu, .int .i64 po, .slice A n cap, .int .i64 tk, .string tn, .int .i64 rf, .int .i64 up]] V fun e w' => e = .returned (.bool true) ∧ Below V.heap.size V w')) : Calls Tryz.prog 15 #[.agg #[.int .i64 7, .string ⟨#[99, 104, 97, 110]⟩, .int .i64 nu, .int .i64 po, .slice A n cap, .int .i64 tk, .string tn, .int .i64 rf, .int .i64 up]] w (Res w 6 ⟨#[]⟩ true) := by
  have HS := Lib.hid (Ob.start w 7 ⟨#[99, 104, 97, 110]⟩ nu po tk rf up tn A n cap)
  go_enter Tryz.func15, Tryz.ntmps15
  go_wp2_with fail
  refine (H.out _ HS.out.b).mono ?_
  rintro e V ⟨rfl, hb⟩
  have hS := HS.out.keep hb
  obtain ⟨r0, r1, rf⟩ := box2 hS.r
  have rf0 := rf 0
  have rf1 := rf 1
  have qz := hS.z
  have q0 := hS.a0
  have q1 := hS.a1
  have qb : w.heap.size < V.heap.size := by omega
  have e1 : ¬ w.heap.size = w.heap.size + 1 := by omega
  have HB := Lib.hid hS.b
  clear rf
  clear hb hS
  go_wp2
  refine bodyPost_ret (v := .tuple #[tyv 6 ⟨#[]⟩, .bool true]) (by simp [results, Tryz.results15, go_sem, qz, qb, r0, r1, rf0, rf1, q0, q1, e1]) rfl ⟨rfl, ?_⟩
  repeat' (first | exact Below.refl _ _ | exact HB.out | apply Below.setCell | apply Below.alloc | apply Below.drew)
  all_goals (try simp)
  all_goals (try omega)
set_option maxRecDepth 100000 in
set_option maxHeartbeats 4000000 in
theorem rOf_E7 (nu po tk rf up : Int) (tn : ByteArray) (A : Option Addr) (cap : Nat) (n : Nat) (w : World) (H : Hid (∀ V, Below w.heap.size w V → Calls Tryz.prog 39 #[.agg #[.int .i64 7, .string ⟨#[102, 117, 110, 99]⟩, .int .i64 nu, .int .i64 po, .slice A n cap, .int .i64 tk, .string tn, .int .i64 rf, .int .i64 up]] V fun e w' => e = .returned (.bool true) ∧ Below V.heap.size V w')) : Calls Tryz.prog 15 #[.agg #[.int .i64 7, .string ⟨#[102, 117, 110, 99]⟩, .int .i64 nu, .int .i64 po, .slice A n cap, .int .i64 tk, .string tn, .int .i64 rf, .int .i64 up]] w (Res w 7 ⟨#[]⟩ true) := by
  have HS := Lib.hid (Ob.start w 7 ⟨#[102, 117, 110, 99]⟩ nu po tk rf up tn A n cap)
  go_enter Tryz.func15, Tryz.ntmps15
  go_wp2_with fail
  refine (H.out _ HS.out.b).mono ?_
  rintro e V ⟨rfl, hb⟩
  have hS := HS.out.keep hb
  obtain ⟨r0, r1, rf⟩ := box2 hS.r
  have rf0 := rf 0
  have rf1 := rf 1
  have qz := hS.z
  have q0 := hS.a0
  have q1 := hS.a1
  have qb : w.heap.size < V.heap.size := by omega
  have e1 : ¬ w.heap.size = w.heap.size + 1 := by omega
  have HB := Lib.hid hS.b
  clear rf
  clear hb hS
  go_wp2
  refine bodyPost_ret (v := .tuple #[tyv 7 ⟨#[]⟩, .bool true]) (by simp [results, Tryz.results15, go_sem, qz, qb, r0, r1, rf0, rf1, q0, q1, e1]) rfl ⟨rfl, ?_⟩
  repeat' (first | exact Below.refl _ _ | exact HB.out | apply Below.setCell | apply Below.alloc | apply Below.drew)
  all_goals (try simp)
  all_goals (try omega)
set_option maxRecDepth 100000 in
set_option maxHeartbeats 4000000 in
theorem rOf_E8 (nu po tk rf up : Int) (tn : ByteArray) (A : Option Addr) (cap : Nat) (n : Nat) (w : World) (H : Hid (∀ V, Below w.heap.size w V → Calls Tryz.prog 39 #[.agg #[.int .i64 7, .string ⟨#[109, 117, 116, 101, 120]⟩, .int .i64 nu, .int .i64 po, .slice A n cap, .int .i64 tk, .string tn, .int .i64 rf, .int .i64 up]] V fun e w' => e = .returned (.bool true) ∧ Below V.heap.size V w')) : Calls Tryz.prog 15 #[.agg #[.int .i64 7, .string ⟨#[109, 117, 116, 101, 120]⟩, .int .i64 nu, .int .i64 po, .slice A n cap, .int .i64 tk, .string tn, .int .i64 rf, .int .i64 up]] w (Res w 8 ⟨#[]⟩ true) := by
  have HS := Lib.hid (Ob.start w 7 ⟨#[109, 117, 116, 101, 120]⟩ nu po tk rf up tn A n cap)
  go_enter Tryz.func15, Tryz.ntmps15
  go_wp2_with fail
  refine (H.out _ HS.out.b).mono ?_
  rintro e V ⟨rfl, hb⟩
  have hS := HS.out.keep hb
  obtain ⟨r0, r1, rf⟩ := box2 hS.r
  have rf0 := rf 0
  have rf1 := rf 1
  have qz := hS.z
  have q0 := hS.a0
  have q1 := hS.a1
  have qb : w.heap.size < V.heap.size := by omega
  have e1 : ¬ w.heap.size = w.heap.size + 1 := by omega
  have HB := Lib.hid hS.b
  clear rf
  clear hb hS
  go_wp2
  refine bodyPost_ret (v := .tuple #[tyv 8 ⟨#[]⟩, .bool true]) (by simp [results, Tryz.results15, go_sem, qz, qb, r0, r1, rf0, rf1, q0, q1, e1]) rfl ⟨rfl, ?_⟩
  repeat' (first | exact Below.refl _ _ | exact HB.out | apply Below.setCell | apply Below.alloc | apply Below.drew)
  all_goals (try simp)
  all_goals (try omega)
set_option maxRecDepth 100000 in
set_option maxHeartbeats 4000000 in
theorem rOf_E9 (nu po tk rf up : Int) (tn : ByteArray) (A : Option Addr) (cap : Nat) (n : Nat) (w : World) (H : Hid (∀ V, Below w.heap.size w V → Calls Tryz.prog 39 #[.agg #[.int .i64 7, .string ⟨#[114, 119, 109, 117, 116, 101, 120]⟩, .int .i64 nu, .int .i64 po, .slice A n cap, .int .i64 tk, .string tn, .int .i64 rf, .int .i64 up]] V fun e w' => e = .returned (.bool true) ∧ Below V.heap.size V w')) : Calls Tryz.prog 15 #[.agg #[.int .i64 7, .string ⟨#[114, 119, 109, 117, 116, 101, 120]⟩, .int .i64 nu, .int .i64 po, .slice A n cap, .int .i64 tk, .string tn, .int .i64 rf, .int .i64 up]] w (Res w 9 ⟨#[]⟩ true) := by
  have HS := Lib.hid (Ob.start w 7 ⟨#[114, 119, 109, 117, 116, 101, 120]⟩ nu po tk rf up tn A n cap)
  go_enter Tryz.func15, Tryz.ntmps15
  go_wp2_with fail
  refine (H.out _ HS.out.b).mono ?_
  rintro e V ⟨rfl, hb⟩
  have hS := HS.out.keep hb
  obtain ⟨r0, r1, rf⟩ := box2 hS.r
  have rf0 := rf 0
  have rf1 := rf 1
  have qz := hS.z
  have q0 := hS.a0
  have q1 := hS.a1
  have qb : w.heap.size < V.heap.size := by omega
  have e1 : ¬ w.heap.size = w.heap.size + 1 := by omega
  have HB := Lib.hid hS.b
  clear rf
  clear hb hS
  go_wp2
  refine bodyPost_ret (v := .tuple #[tyv 9 ⟨#[]⟩, .bool true]) (by simp [results, Tryz.results15, go_sem, qz, qb, r0, r1, rf0, rf1, q0, q1, e1]) rfl ⟨rfl, ?_⟩
  repeat' (first | exact Below.refl _ _ | exact HB.out | apply Below.setCell | apply Below.alloc | apply Below.drew)
  all_goals (try simp)
  all_goals (try omega)
set_option maxRecDepth 100000 in
set_option maxHeartbeats 4000000 in
theorem rOf_E10 (nu po tk rf up : Int) (tn : ByteArray) (A : Option Addr) (cap : Nat) (n : Nat) (w : World) (H : Hid (∀ V, Below w.heap.size w V → Calls Tryz.prog 39 #[.agg #[.int .i64 7, .string ⟨#[103, 114, 111, 117, 112]⟩, .int .i64 nu, .int .i64 po, .slice A n cap, .int .i64 tk, .string tn, .int .i64 rf, .int .i64 up]] V fun e w' => e = .returned (.bool true) ∧ Below V.heap.size V w')) : Calls Tryz.prog 15 #[.agg #[.int .i64 7, .string ⟨#[103, 114, 111, 117, 112]⟩, .int .i64 nu, .int .i64 po, .slice A n cap, .int .i64 tk, .string tn, .int .i64 rf, .int .i64 up]] w (Res w 10 ⟨#[]⟩ true) := by
  have HS := Lib.hid (Ob.start w 7 ⟨#[103, 114, 111, 117, 112]⟩ nu po tk rf up tn A n cap)
  go_enter Tryz.func15, Tryz.ntmps15
  go_wp2_with fail
  refine (H.out _ HS.out.b).mono ?_
  rintro e V ⟨rfl, hb⟩
  have hS := HS.out.keep hb
  obtain ⟨r0, r1, rf⟩ := box2 hS.r
  have rf0 := rf 0
  have rf1 := rf 1
  have qz := hS.z
  have q0 := hS.a0
  have q1 := hS.a1
  have qb : w.heap.size < V.heap.size := by omega
  have e1 : ¬ w.heap.size = w.heap.size + 1 := by omega
  have HB := Lib.hid hS.b
  clear rf
  clear hb hS
  go_wp2
  refine bodyPost_ret (v := .tuple #[tyv 10 ⟨#[]⟩, .bool true]) (by simp [results, Tryz.results15, go_sem, qz, qb, r0, r1, rf0, rf1, q0, q1, e1]) rfl ⟨rfl, ?_⟩
  repeat' (first | exact Below.refl _ _ | exact HB.out | apply Below.setCell | apply Below.alloc | apply Below.drew)
  all_goals (try simp)
  all_goals (try omega)
set_option maxRecDepth 100000 in
set_option maxHeartbeats 4000000 in
theorem rOf_E11 (nu po tk rf up : Int) (tn : ByteArray) (A : Option Addr) (cap : Nat) (n : Nat) (w : World) (H : Hid (∀ V, Below w.heap.size w V → Calls Tryz.prog 39 #[.agg #[.int .i64 7, .string ⟨#[111, 110, 99, 101]⟩, .int .i64 nu, .int .i64 po, .slice A n cap, .int .i64 tk, .string tn, .int .i64 rf, .int .i64 up]] V fun e w' => e = .returned (.bool true) ∧ Below V.heap.size V w')) : Calls Tryz.prog 15 #[.agg #[.int .i64 7, .string ⟨#[111, 110, 99, 101]⟩, .int .i64 nu, .int .i64 po, .slice A n cap, .int .i64 tk, .string tn, .int .i64 rf, .int .i64 up]] w (Res w 11 ⟨#[]⟩ true) := by
  have HS := Lib.hid (Ob.start w 7 ⟨#[111, 110, 99, 101]⟩ nu po tk rf up tn A n cap)
  go_enter Tryz.func15, Tryz.ntmps15
  go_wp2_with fail
  refine (H.out _ HS.out.b).mono ?_
  rintro e V ⟨rfl, hb⟩
  have hS := HS.out.keep hb
  obtain ⟨r0, r1, rf⟩ := box2 hS.r
  have rf0 := rf 0
  have rf1 := rf 1
  have qz := hS.z
  have q0 := hS.a0
  have q1 := hS.a1
  have qb : w.heap.size < V.heap.size := by omega
  have e1 : ¬ w.heap.size = w.heap.size + 1 := by omega
  have HB := Lib.hid hS.b
  clear rf
  clear hb hS
  go_wp2
  refine bodyPost_ret (v := .tuple #[tyv 11 ⟨#[]⟩, .bool true]) (by simp [results, Tryz.results15, go_sem, qz, qb, r0, r1, rf0, rf1, q0, q1, e1]) rfl ⟨rfl, ?_⟩
  repeat' (first | exact Below.refl _ _ | exact HB.out | apply Below.setCell | apply Below.alloc | apply Below.drew)
  all_goals (try simp)
  all_goals (try omega)
set_option maxRecDepth 100000 in
set_option maxHeartbeats 4000000 in
theorem rOf_E12 (nu po tk rf up : Int) (tn : ByteArray) (A : Option Addr) (cap : Nat) (n : Nat) (w : World) (H : Hid (∀ V, Below w.heap.size w V → Calls Tryz.prog 39 #[.agg #[.int .i64 7, .string ⟨#[97, 116, 111, 109, 105, 99]⟩, .int .i64 nu, .int .i64 po, .slice A n cap, .int .i64 tk, .string tn, .int .i64 rf, .int .i64 up]] V fun e w' => e = .returned (.bool true) ∧ Below V.heap.size V w')) : Calls Tryz.prog 15 #[.agg #[.int .i64 7, .string ⟨#[97, 116, 111, 109, 105, 99]⟩, .int .i64 nu, .int .i64 po, .slice A n cap, .int .i64 tk, .string tn, .int .i64 rf, .int .i64 up]] w (Res w 12 ⟨#[]⟩ true) := by
  have HS := Lib.hid (Ob.start w 7 ⟨#[97, 116, 111, 109, 105, 99]⟩ nu po tk rf up tn A n cap)
  go_enter Tryz.func15, Tryz.ntmps15
  go_wp2_with fail
  refine (H.out _ HS.out.b).mono ?_
  rintro e V ⟨rfl, hb⟩
  have hS := HS.out.keep hb
  obtain ⟨r0, r1, rf⟩ := box2 hS.r
  have rf0 := rf 0
  have rf1 := rf 1
  have qz := hS.z
  have q0 := hS.a0
  have q1 := hS.a1
  have qb : w.heap.size < V.heap.size := by omega
  have e1 : ¬ w.heap.size = w.heap.size + 1 := by omega
  have HB := Lib.hid hS.b
  clear rf
  clear hb hS
  go_wp2
  refine bodyPost_ret (v := .tuple #[tyv 12 ⟨#[]⟩, .bool true]) (by simp [results, Tryz.results15, go_sem, qz, qb, r0, r1, rf0, rf1, q0, q1, e1]) rfl ⟨rfl, ?_⟩
  repeat' (first | exact Below.refl _ _ | exact HB.out | apply Below.setCell | apply Below.alloc | apply Below.drew)
  all_goals (try simp)
  all_goals (try omega)
set_option maxRecDepth 100000 in
set_option maxHeartbeats 4000000 in
theorem rOf_any (h : Hd) (k : Fo) (A : Option Addr) (cap : Nat) (w : World) (hn : numIx h) : Calls Tryz.prog 15 #[nv h A k.len cap] w (OfPost h k.len w) := by
  have HH : ∀ V, Below w.heap.size w V → Calls Tryz.prog 39 #[nv h A k.len cap] V fun e w' => e = .returned (.bool (tyN h k.len)) ∧ Below V.heap.size V w' := fun V hV => rIsType_any h A k.len cap V hn.2
  obtain ⟨n, en⟩ : ∃ n, k.len = n := ⟨_, rfl⟩
  rw [en] at HH ⊢
  clear en
  obtain ⟨kd, tx, nu, po, tk, tn, rf, up⟩ := h
  have key : ∀ (K : Int) (S : ByteArray) (b : Bool), ofK ⟨kd, tx, nu, po, tk, tn, rf, up⟩ n = K → ofN ⟨kd, tx, nu, po, tk, tn, rf, up⟩ n = S → ofB ⟨kd, tx, nu, po, tk, tn, rf, up⟩ n = b → Calls Tryz.prog 15 #[.agg #[.int .i64 kd, .string tx, .int .i64 nu, .int .i64 po, .slice A n cap, .int .i64 tk, .string tn, .int .i64 rf, .int .i64 up]] w (Res w K S b) → Calls Tryz.prog 15 #[.agg #[.int .i64 kd, .string tx, .int .i64 nu, .int .i64 po, .slice A n cap, .int .i64 tk, .string tn, .int .i64 rf, .int .i64 up]] w (OfPost ⟨kd, tx, nu, po, tk, tn, rf, up⟩ n w) := by
    intro K S b h1 h2 h3 hq
    subst h1; subst h2; subst h3
    exact hq.mono fun e w' h => h
  refine (?_ : Calls Tryz.prog 15 #[.agg #[.int .i64 kd, .string tx, .int .i64 nu, .int .i64 po, .slice A n cap, .int .i64 tk, .string tn, .int .i64 rf, .int .i64 up]] w (OfPost ⟨kd, tx, nu, po, tk, tn, rf, up⟩ n w))
  have HH' : ∀ V, Below w.heap.size w V → Calls Tryz.prog 39 #[.agg #[.int .i64 kd, .string tx, .int .i64 nu, .int .i64 po, .slice A n cap, .int .i64 tk, .string tn, .int .i64 rf, .int .i64 up]] V fun e w' => e = .returned (.bool (tyN ⟨kd, tx, nu, po, tk, tn, rf, up⟩ n)) ∧ Below V.heap.size V w' := HH
  by_cases hno : noN ⟨kd, tx, nu, po, tk, tn, rf, up⟩ n = true
  · have hno' := hno
    unfold noN emp at hno'
    simp at hno'
    obtain ⟨⟨h9, ht⟩, h0⟩ := hno'
    subst h9; subst h0
    obtain rfl : tx = ⟨#[]⟩ := ba_ext (ht.trans (by rw [ByteArray.toList_eq]))
    refine key 0 ⟨#[]⟩ true (by unfold ofK; rw [hno]; rfl) ?_ (by unfold ofB; rw [hno]; rfl) (rOf_A nu po tk rf up tn A cap w)
    unfold ofN tyN; rfl
  · have hno1 : noN ⟨kd, tx, nu, po, tk, tn, rf, up⟩ n = false := by simpa using hno
    by_cases ht : tyN ⟨kd, tx, nu, po, tk, tn, rf, up⟩ n = true
    · rw [ht] at HH'
      have ht' := ht
      unfold tyN typeK at ht'
      simp only [Bool.and_eq_true, Bool.or_eq_true, beq_iff_eq] at ht'
      obtain ⟨⟨h78, hfit⟩, h0⟩ := ht'
      rcases h78 with h7 | h8
      · subst h7
        rw [kind_n7 rfl] at hfit
        rcases isW_of hfit with rfl | rfl | rfl | rfl | rfl | rfl | rfl | rfl | rfl | rfl
        · exact key 1 ⟨#[]⟩ true (by unfold ofK; rw [hno1, ht]; show kOf (⟨#[105, 110, 116]⟩ : ByteArray).toList = _; rw [ByteArray.toList_eq]; rfl) (by unfold ofN; rw [ht]; rfl) (by unfold ofB; rw [ht]; simp) (rOf_E1 nu po tk rf up tn A cap n w (Lib.hid HH'))
        · exact key 2 ⟨#[]⟩ true (by unfold ofK; rw [hno1, ht]; show kOf (⟨#[98, 111, 111, 108]⟩ : ByteArray).toList = _; rw [ByteArray.toList_eq]; rfl) (by unfold ofN; rw [ht]; rfl) (by unfold ofB; rw [ht]; simp) (rOf_E2 nu po tk rf up tn A cap n w (Lib.hid HH'))
        · exact key 5 ⟨#[]⟩ true (by unfold ofK; rw [hno1, ht]; show kOf (⟨#[91, 93, 105, 110, 116]⟩ : ByteArray).toList = _; rw [ByteArray.toList_eq]; rfl) (by unfold ofN; rw [ht]; rfl) (by unfold ofB; rw [ht]; simp) (rOf_E5 nu po tk rf up tn A cap n w (Lib.hid HH'))
        · exact key 6 ⟨#[]⟩ true (by unfold ofK; rw [hno1, ht]; show kOf (⟨#[99, 104, 97, 110]⟩ : ByteArray).toList = _; rw [ByteArray.toList_eq]; rfl) (by unfold ofN; rw [ht]; rfl) (by unfold ofB; rw [ht]; simp) (rOf_E6 nu po tk rf up tn A cap n w (Lib.hid HH'))
        · exact key 7 ⟨#[]⟩ true (by unfold ofK; rw [hno1, ht]; show kOf (⟨#[102, 117, 110, 99]⟩ : ByteArray).toList = _; rw [ByteArray.toList_eq]; rfl) (by unfold ofN; rw [ht]; rfl) (by unfold ofB; rw [ht]; simp) (rOf_E7 nu po tk rf up tn A cap n w (Lib.hid HH'))
        · exact key 8 ⟨#[]⟩ true (by unfold ofK; rw [hno1, ht]; show kOf (⟨#[109, 117, 116, 101, 120]⟩ : ByteArray).toList = _; rw [ByteArray.toList_eq]; rfl) (by unfold ofN; rw [ht]; rfl) (by unfold ofB; rw [ht]; simp) (rOf_E8 nu po tk rf up tn A cap n w (Lib.hid HH'))
        · exact key 9 ⟨#[]⟩ true (by unfold ofK; rw [hno1, ht]; show kOf (⟨#[114, 119, 109, 117, 116, 101, 120]⟩ : ByteArray).toList = _; rw [ByteArray.toList_eq]; rfl) (by unfold ofN; rw [ht]; rfl) (by unfold ofB; rw [ht]; simp) (rOf_E9 nu po tk rf up tn A cap n w (Lib.hid HH'))
        · exact key 10 ⟨#[]⟩ true (by unfold ofK; rw [hno1, ht]; show kOf (⟨#[103, 114, 111, 117, 112]⟩ : ByteArray).toList = _; rw [ByteArray.toList_eq]; rfl) (by unfold ofN; rw [ht]; rfl) (by unfold ofB; rw [ht]; simp) (rOf_E10 nu po tk rf up tn A cap n w (Lib.hid HH'))
        · exact key 11 ⟨#[]⟩ true (by unfold ofK; rw [hno1, ht]; show kOf (⟨#[111, 110, 99, 101]⟩ : ByteArray).toList = _; rw [ByteArray.toList_eq]; rfl) (by unfold ofN; rw [ht]; rfl) (by unfold ofB; rw [ht]; simp) (rOf_E11 nu po tk rf up tn A cap n w (Lib.hid HH'))
        · exact key 12 ⟨#[]⟩ true (by unfold ofK; rw [hno1, ht]; show kOf (⟨#[97, 116, 111, 109, 105, 99]⟩ : ByteArray).toList = _; rw [ByteArray.toList_eq]; rfl) (by unfold ofN; rw [ht]; rfl) (by unfold ofB; rw [ht]; simp) (rOf_E12 nu po tk rf up tn A cap n w (Lib.hid HH'))
      · subst h8
        exact key 4 tx true (by unfold ofK; rw [hno1, ht]; rfl) (by unfold ofN; rw [ht]; rfl) (by unfold ofB; rw [ht]; simp) (rOf_D nu po tk rf up tn A cap tx n w (Lib.hid HH'))
    · have ht1 : tyN ⟨kd, tx, nu, po, tk, tn, rf, up⟩ n = false := by simpa using ht
      rw [ht1] at HH'
      refine key 0 ⟨#[]⟩ false (by unfold ofK; rw [hno1, ht1]; rfl) (by unfold ofN; rw [ht1]; rfl) (by unfold ofB; rw [hno1, ht1]; rfl) ?_
      by_cases h9 : kd = 9
      · subst h9
        by_cases he : tx.toList = []
        · obtain rfl : tx = ⟨#[]⟩ := ba_ext (he.trans (by rw [ByteArray.toList_eq]))
          have h0 : ¬ n = 0 := by
            intro e
            subst e
            apply hno
            unfold noN emp
            simp [he]
          exact rOf_B3 nu po tk rf up tn A cap n (by simp; omega) w (Lib.hid HH')
        · exact rOf_B2 nu po tk rf up tn A cap tx n (by simpa using he) (by simpa using he) w (Lib.hid HH')
      · exact rOf_B1 nu po tk rf up tn A cap kd tx n (by simpa using h9) w (Lib.hid HH')
end Go.Proofs.YtijhdlmnoinfiaaGreatDoor
