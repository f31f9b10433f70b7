/-
  The walk of sample.
-/
import Derived.Test.YticbcnhbpbaocaaGreatDoorQA
import Derived.Test.YticbcnhbpbaocaaGreatDoorCA

set_option linter.all false
namespace Go.Proofs.YticbcnhbpbaocaaGreatDoor
open Go.RowKit T T.Fo
set_option linter.all false
theorem kc_dr (w : World) (p : Addr) : w.drew.cell? p = w.cell? p := rfl
theorem kh_dr (w : World) : w.drew.heap.size = w.heap.size := rfl
theorem kc_x {w : World} {o : Obj} {b i : Nat} {v : Value} (hb : b < w.heap.size) (h : w.cell? ⟨b, i, none⟩ = some v) : (w.alloc o).cell? ⟨b, i, none⟩ = some v :=
  (Below.cell (p := ⟨b, i, none⟩) ((Below.refl w.heap.size w).alloc (Nat.le_refl _) o) hb).trans h
theorem kl_x {w : World} {o : Obj} {b : Nat} (hb : b < w.heap.size) : b < (w.alloc o).heap.size := by rw [World.size_alloc]; omega
theorem kc_a0 {w : World} {b i : Nat} {v : Value} (hb : b < w.heap.size) (h : w.cell? ⟨b, i, none⟩ = some v) : w.drew.cell? ⟨b, i, none⟩ = some v := (kc_dr _ _).trans h
theorem kl_a0 {w : World} {b : Nat} (hb : b < w.heap.size) : b < w.drew.heap.size := by rw [kh_dr]; exact hb
theorem kc_a1 {w : World} {o_0 : Obj} {b i : Nat} {v : Value} (hb : b < w.heap.size) (h : w.cell? ⟨b, i, none⟩ = some v) : (w.alloc o_0).drew.cell? ⟨b, i, none⟩ = some v := (kc_dr _ _).trans (kc_x hb h)
theorem kl_a1 {w : World} {o_0 : Obj} {b : Nat} (hb : b < w.heap.size) : b < (w.alloc o_0).drew.heap.size := by rw [kh_dr]; exact (kl_x hb)
theorem kc_a2 {w : World} {o_0 o_1 : Obj} {b i : Nat} {v : Value} (hb : b < w.heap.size) (h : w.cell? ⟨b, i, none⟩ = some v) : ((w.alloc o_0).alloc o_1).drew.cell? ⟨b, i, none⟩ = some v := (kc_dr _ _).trans (kc_x (kl_x hb) (kc_x hb h))
theorem kl_a2 {w : World} {o_0 o_1 : Obj} {b : Nat} (hb : b < w.heap.size) : b < ((w.alloc o_0).alloc o_1).drew.heap.size := by rw [kh_dr]; exact (kl_x (kl_x hb))
theorem kc_a3 {w : World} {o_0 o_1 o_2 : Obj} {b i : Nat} {v : Value} (hb : b < w.heap.size) (h : w.cell? ⟨b, i, none⟩ = some v) : (((w.alloc o_0).alloc o_1).alloc o_2).drew.cell? ⟨b, i, none⟩ = some v := (kc_dr _ _).trans (kc_x (kl_x (kl_x hb)) (kc_x (kl_x hb) (kc_x hb h)))
theorem kl_a3 {w : World} {o_0 o_1 o_2 : Obj} {b : Nat} (hb : b < w.heap.size) : b < (((w.alloc o_0).alloc o_1).alloc o_2).drew.heap.size := by rw [kh_dr]; exact (kl_x (kl_x (kl_x hb)))
set_option maxRecDepth 100000 in
theorem name_any (s : ByteArray) (w : World) : Calls Tryz.prog 31 #[.string s] w fun e w' => e = .returned (nv ⟨27, s, 0, 0, 0, ⟨#[]⟩, 0, 0⟩ none 0 0) ∧ w' = w.alloc (.cells #[.int .i64 27, .string s, .int .i64 0, .int .i64 0, .slice none 0 0, .int .i64 0, .string ⟨#[]⟩, .int .i64 0, .int .i64 0] 26) := by
  go_enter Tryz.func31, Tryz.ntmps31
  go_wp2
  refine bodyPost_ret (v := nv ⟨27, s, 0, 0, 0, ⟨#[]⟩, 0, 0⟩ none 0 0) (by simp [results, Tryz.results31, go_sem]) rfl ⟨rfl, ?_⟩
  rfl
set_option maxRecDepth 100000 in
theorem typed_any (s : ByteArray) (w : World) : Calls Tryz.prog 32 #[.string s] w fun e w' => e = .returned (nv ⟨7, s, 0, 0, 0, ⟨#[]⟩, 0, 0⟩ none 0 0) ∧ w' = w.alloc (.cells #[.int .i64 7, .string s, .int .i64 0, .int .i64 0, .slice none 0 0, .int .i64 0, .string ⟨#[]⟩, .int .i64 0, .int .i64 0] 26) := by
  go_enter Tryz.func32, Tryz.ntmps32
  go_wp2
  refine bodyPost_ret (v := nv ⟨7, s, 0, 0, 0, ⟨#[]⟩, 0, 0⟩ none 0 0) (by simp [results, Tryz.results32, go_sem]) rfl ⟨rfl, ?_⟩
  rfl
end Go.Proofs.YticbcnhbpbaocaaGreatDoor
