/-
  The walk of the specification's Binary, operator by operator.
-/
import Derived.Test.YtijhdlmnoinfiaaGreatDoorEC
set_option linter.all false
namespace Go.Proofs.YtijhdlmnoinfiaaGreatDoor
open Go.RowKit Ty
/-- Two cells of a box. -/
theorem box2 {w : World} {b : Nat} {x y : Value} {t : TypeId} (h : w.heap[b]? = some (.cells #[x, y] t (0, 0))) : w.cell? ⟨b, 0, none⟩ = some x ∧ w.cell? ⟨b, 1, none⟩ = some y ∧ ∀ i, w.frozen? ⟨b, i, none⟩ = false :=
  ⟨by simp [World.cell?, h], by simp [World.cell?, h], fun i => by simp [World.frozen?, h]⟩
theorem five {w w1 : World} {o1 o2 o3 o4 o5 : Obj} (hb : Below (((((w.alloc o1).alloc o2).alloc o3).alloc o4).alloc o5).heap.size (((((w.alloc o1).alloc o2).alloc o3).alloc o4).alloc o5) w1) :
    w1.heap[w.heap.size + 1 + 1]? = some o3 ∧ w1.heap[w.heap.size + 1 + 1 + 1 + 1]? = some o5 ∧ w.heap.size + 1 + 1 + 1 + 1 < w1.heap.size ∧ Below w.heap.size w w1 := by
  have hs : (((((w.alloc o1).alloc o2).alloc o3).alloc o4).alloc o5).heap.size = w.heap.size + 1 + 1 + 1 + 1 + 1 := by simp
  have hz := hb.size
  refine ⟨?_, ?_, by omega, ?_⟩
  · refine (hb.block _ (by omega)).trans ?_
    rw [Below.heap_alloc _ _ _ (by simp), Below.heap_alloc _ _ _ (by simp)]
    have := heap_alloc_new ((w.alloc o1).alloc o2) o3
    simpa using this
  · refine (hb.block _ (by omega)).trans ?_
    have := heap_alloc_new ((((w.alloc o1).alloc o2).alloc o3).alloc o4) o5
    simpa using this
  · refine Below.trans ?_ (hb.mono (by omega))
    exact (((((Below.refl _ _).alloc (Nat.le_refl _) _).alloc (by simp) _).alloc (by simp; omega) _).alloc (by simp; omega) _).alloc (by simp; omega) _
set_option maxRecDepth 100000 in
set_option maxHeartbeats 4000000 in
theorem rbin_43 (k : Int) (s : ByteArray) (k' : Int) (s' : ByteArray) (w : World) (hm : s.size ≤ maxLen) (hm' : s'.size ≤ maxLen) :
    Calls Tryz.prog 28 #[.string ⟨#[43]⟩, tyv k s, tyv k' s'] w fun e w' => e = .returned (.tuple #[tyv (binC 1 k s k' s') ⟨#[]⟩, .bool (decide (binC 1 k s k' s' ≠ 0))]) ∧ Below w.heap.size w w' := by
  go_enter Tryz.func28, Tryz.ntmps28
  go_wp2_with fail
  all_goals refine bodyPost_ret (v := .tuple #[tyv (binC 1 k s k' s') ⟨#[]⟩, .bool (decide (binC 1 k s k' s' ≠ 0))]) (by unfold binC isK emp; simp_all [results, Tryz.results28, go_sem]) rfl ⟨rfl, ?_⟩
  all_goals repeat' (first | exact Below.refl _ _ | exact HB.out | apply Below.setCell | apply Below.alloc)
  all_goals simp
  all_goals (try omega)
set_option maxRecDepth 100000 in
set_option maxHeartbeats 4000000 in
theorem rbin_45 (k : Int) (s : ByteArray) (k' : Int) (s' : ByteArray) (w : World) (hm : s.size ≤ maxLen) (hm' : s'.size ≤ maxLen) :
    Calls Tryz.prog 28 #[.string ⟨#[45]⟩, tyv k s, tyv k' s'] w fun e w' => e = .returned (.tuple #[tyv (binC 1 k s k' s') ⟨#[]⟩, .bool (decide (binC 1 k s k' s' ≠ 0))]) ∧ Below w.heap.size w w' := by
  go_enter Tryz.func28, Tryz.ntmps28
  go_wp2_with fail
  all_goals refine bodyPost_ret (v := .tuple #[tyv (binC 1 k s k' s') ⟨#[]⟩, .bool (decide (binC 1 k s k' s' ≠ 0))]) (by unfold binC isK emp; simp_all [results, Tryz.results28, go_sem]) rfl ⟨rfl, ?_⟩
  all_goals repeat' (first | exact Below.refl _ _ | exact HB.out | apply Below.setCell | apply Below.alloc)
  all_goals simp
  all_goals (try omega)
set_option maxRecDepth 100000 in
set_option maxHeartbeats 4000000 in
theorem rbin_42 (k : Int) (s : ByteArray) (k' : Int) (s' : ByteArray) (w : World) (hm : s.size ≤ maxLen) (hm' : s'.size ≤ maxLen) :
    Calls Tryz.prog 28 #[.string ⟨#[42]⟩, tyv k s, tyv k' s'] w fun e w' => e = .returned (.tuple #[tyv (binC 1 k s k' s') ⟨#[]⟩, .bool (decide (binC 1 k s k' s' ≠ 0))]) ∧ Below w.heap.size w w' := by
  go_enter Tryz.func28, Tryz.ntmps28
  go_wp2_with fail
  all_goals refine bodyPost_ret (v := .tuple #[tyv (binC 1 k s k' s') ⟨#[]⟩, .bool (decide (binC 1 k s k' s' ≠ 0))]) (by unfold binC isK emp; simp_all [results, Tryz.results28, go_sem]) rfl ⟨rfl, ?_⟩
  all_goals repeat' (first | exact Below.refl _ _ | exact HB.out | apply Below.setCell | apply Below.alloc)
  all_goals simp
  all_goals (try omega)
set_option maxRecDepth 100000 in
set_option maxHeartbeats 4000000 in
theorem rbin_47 (k : Int) (s : ByteArray) (k' : Int) (s' : ByteArray) (w : World) (hm : s.size ≤ maxLen) (hm' : s'.size ≤ maxLen) :
    Calls Tryz.prog 28 #[.string ⟨#[47]⟩, tyv k s, tyv k' s'] w fun e w' => e = .returned (.tuple #[tyv (binC 1 k s k' s') ⟨#[]⟩, .bool (decide (binC 1 k s k' s' ≠ 0))]) ∧ Below w.heap.size w w' := by
  go_enter Tryz.func28, Tryz.ntmps28
  go_wp2_with fail
  all_goals refine bodyPost_ret (v := .tuple #[tyv (binC 1 k s k' s') ⟨#[]⟩, .bool (decide (binC 1 k s k' s' ≠ 0))]) (by unfold binC isK emp; simp_all [results, Tryz.results28, go_sem]) rfl ⟨rfl, ?_⟩
  all_goals repeat' (first | exact Below.refl _ _ | exact HB.out | apply Below.setCell | apply Below.alloc)
  all_goals simp
  all_goals (try omega)
set_option maxRecDepth 100000 in
set_option maxHeartbeats 4000000 in
theorem rbin_37 (k : Int) (s : ByteArray) (k' : Int) (s' : ByteArray) (w : World) (hm : s.size ≤ maxLen) (hm' : s'.size ≤ maxLen) :
    Calls Tryz.prog 28 #[.string ⟨#[37]⟩, tyv k s, tyv k' s'] w fun e w' => e = .returned (.tuple #[tyv (binC 1 k s k' s') ⟨#[]⟩, .bool (decide (binC 1 k s k' s' ≠ 0))]) ∧ Below w.heap.size w w' := by
  go_enter Tryz.func28, Tryz.ntmps28
  go_wp2_with fail
  all_goals refine bodyPost_ret (v := .tuple #[tyv (binC 1 k s k' s') ⟨#[]⟩, .bool (decide (binC 1 k s k' s' ≠ 0))]) (by unfold binC isK emp; simp_all [results, Tryz.results28, go_sem]) rfl ⟨rfl, ?_⟩
  all_goals repeat' (first | exact Below.refl _ _ | exact HB.out | apply Below.setCell | apply Below.alloc)
  all_goals simp
  all_goals (try omega)
set_option maxRecDepth 100000 in
set_option maxHeartbeats 4000000 in
theorem rbin_60 (k : Int) (s : ByteArray) (k' : Int) (s' : ByteArray) (w : World) (hm : s.size ≤ maxLen) (hm' : s'.size ≤ maxLen) :
    Calls Tryz.prog 28 #[.string ⟨#[60]⟩, tyv k s, tyv k' s'] w fun e w' => e = .returned (.tuple #[tyv (binC 2 k s k' s') ⟨#[]⟩, .bool (decide (binC 2 k s k' s' ≠ 0))]) ∧ Below w.heap.size w w' := by
  go_enter Tryz.func28, Tryz.ntmps28
  go_wp2_with fail
  all_goals refine bodyPost_ret (v := .tuple #[tyv (binC 2 k s k' s') ⟨#[]⟩, .bool (decide (binC 2 k s k' s' ≠ 0))]) (by unfold binC isK emp; simp_all [results, Tryz.results28, go_sem]) rfl ⟨rfl, ?_⟩
  all_goals repeat' (first | exact Below.refl _ _ | exact HB.out | apply Below.setCell | apply Below.alloc)
  all_goals simp
  all_goals (try omega)
set_option maxRecDepth 100000 in
set_option maxHeartbeats 4000000 in
theorem rbin_6061 (k : Int) (s : ByteArray) (k' : Int) (s' : ByteArray) (w : World) (hm : s.size ≤ maxLen) (hm' : s'.size ≤ maxLen) :
    Calls Tryz.prog 28 #[.string ⟨#[60, 61]⟩, tyv k s, tyv k' s'] w fun e w' => e = .returned (.tuple #[tyv (binC 2 k s k' s') ⟨#[]⟩, .bool (decide (binC 2 k s k' s' ≠ 0))]) ∧ Below w.heap.size w w' := by
  go_enter Tryz.func28, Tryz.ntmps28
  go_wp2_with fail
  all_goals refine bodyPost_ret (v := .tuple #[tyv (binC 2 k s k' s') ⟨#[]⟩, .bool (decide (binC 2 k s k' s' ≠ 0))]) (by unfold binC isK emp; simp_all [results, Tryz.results28, go_sem]) rfl ⟨rfl, ?_⟩
  all_goals repeat' (first | exact Below.refl _ _ | exact HB.out | apply Below.setCell | apply Below.alloc)
  all_goals simp
  all_goals (try omega)
set_option maxRecDepth 100000 in
set_option maxHeartbeats 4000000 in
theorem rbin_62 (k : Int) (s : ByteArray) (k' : Int) (s' : ByteArray) (w : World) (hm : s.size ≤ maxLen) (hm' : s'.size ≤ maxLen) :
    Calls Tryz.prog 28 #[.string ⟨#[62]⟩, tyv k s, tyv k' s'] w fun e w' => e = .returned (.tuple #[tyv (binC 2 k s k' s') ⟨#[]⟩, .bool (decide (binC 2 k s k' s' ≠ 0))]) ∧ Below w.heap.size w w' := by
  go_enter Tryz.func28, Tryz.ntmps28
  go_wp2_with fail
  all_goals refine bodyPost_ret (v := .tuple #[tyv (binC 2 k s k' s') ⟨#[]⟩, .bool (decide (binC 2 k s k' s' ≠ 0))]) (by unfold binC isK emp; simp_all [results, Tryz.results28, go_sem]) rfl ⟨rfl, ?_⟩
  all_goals repeat' (first | exact Below.refl _ _ | exact HB.out | apply Below.setCell | apply Below.alloc)
  all_goals simp
  all_goals (try omega)
set_option maxRecDepth 100000 in
set_option maxHeartbeats 4000000 in
theorem rbin_6261 (k : Int) (s : ByteArray) (k' : Int) (s' : ByteArray) (w : World) (hm : s.size ≤ maxLen) (hm' : s'.size ≤ maxLen) :
    Calls Tryz.prog 28 #[.string ⟨#[62, 61]⟩, tyv k s, tyv k' s'] w fun e w' => e = .returned (.tuple #[tyv (binC 2 k s k' s') ⟨#[]⟩, .bool (decide (binC 2 k s k' s' ≠ 0))]) ∧ Below w.heap.size w w' := by
  go_enter Tryz.func28, Tryz.ntmps28
  go_wp2_with fail
  all_goals refine bodyPost_ret (v := .tuple #[tyv (binC 2 k s k' s') ⟨#[]⟩, .bool (decide (binC 2 k s k' s' ≠ 0))]) (by unfold binC isK emp; simp_all [results, Tryz.results28, go_sem]) rfl ⟨rfl, ?_⟩
  all_goals repeat' (first | exact Below.refl _ _ | exact HB.out | apply Below.setCell | apply Below.alloc)
  all_goals simp
  all_goals (try omega)
set_option maxRecDepth 100000 in
set_option maxHeartbeats 4000000 in
theorem rbin_6161 (k : Int) (s : ByteArray) (k' : Int) (s' : ByteArray) (w : World) (hm : s.size ≤ maxLen) (hm' : s'.size ≤ maxLen) :
    Calls Tryz.prog 28 #[.string ⟨#[61, 61]⟩, tyv k s, tyv k' s'] w fun e w' => e = .returned (.tuple #[tyv (binC 3 k s k' s') ⟨#[]⟩, .bool (decide (binC 3 k s k' s' ≠ 0))]) ∧ Below w.heap.size w w' := by
  obtain ⟨v, hv⟩ : ∃ v, cmB k s k' s' = v := ⟨_, rfl⟩
  have HC : Hid (∀ W, Calls Tryz.prog 26 #[tyv k s, tyv k' s'] W fun e w' => e = .returned (.bool v) ∧ Below W.heap.size W w') := Lib.hid fun W => hv ▸ rcompare_any k s k' s' W hm hm'
  have HV : Hid (binC 3 k s k' s' = if v then 2 else 0) := Lib.hid (by unfold binC; rw [hv]; simp)
  rw [HV.out]
  clear hv
  cases v with
  | false =>
    show Calls Tryz.prog 28 _ w fun e w' => e = .returned (.tuple #[tyv 0 ⟨#[]⟩, .bool false]) ∧ _
    go_enter Tryz.func28, Tryz.ntmps28
    go_wp2_with fail
    refine (HC.out _).mono ?_
    rintro e w1 ⟨rfl, hb⟩
    obtain ⟨q6, q9, hz, hB⟩ := five hb
    have HB := Lib.hid hB
    obtain ⟨c60, c61, c6f⟩ := box2 q6
    obtain ⟨c90, c91, c9f⟩ := box2 q9
    have f60 := c6f 0
    have f61 := c6f 1
    clear hb q6 q9 hB c6f c9f
    go_wp2
    refine bodyPost_ret (v := .tuple #[tyv 0 ⟨#[]⟩, .bool false]) (by simp [results, Tryz.results28, go_sem, hz, c60, c61, f60, f61]) rfl ⟨rfl, ?_⟩
    exact (HB.out.setCell (by simp; omega) _).setCell (by simp; omega) _
  | true =>
    show Calls Tryz.prog 28 _ w fun e w' => e = .returned (.tuple #[tyv 2 ⟨#[]⟩, .bool true]) ∧ _
    go_enter Tryz.func28, Tryz.ntmps28
    go_wp2_with fail
    refine (HC.out _).mono ?_
    rintro e w1 ⟨rfl, hb⟩
    obtain ⟨q6, q9, hz, hB⟩ := five hb
    have HB := Lib.hid hB
    obtain ⟨c60, c61, c6f⟩ := box2 q6
    obtain ⟨c90, c91, c9f⟩ := box2 q9
    have f60 := c6f 0
    have f61 := c6f 1
    clear hb q6 q9 hB c6f c9f
    go_wp2
    refine bodyPost_ret (v := .tuple #[tyv 2 ⟨#[]⟩, .bool true]) (by simp [results, Tryz.results28, go_sem, hz, c60, c61, f60, f61]) rfl ⟨rfl, ?_⟩
    exact (HB.out.setCell (by simp; omega) _).setCell (by simp; omega) _
set_option maxRecDepth 100000 in
set_option maxHeartbeats 4000000 in
theorem rbin_3361 (k : Int) (s : ByteArray) (k' : Int) (s' : ByteArray) (w : World) (hm : s.size ≤ maxLen) (hm' : s'.size ≤ maxLen) :
    Calls Tryz.prog 28 #[.string ⟨#[33, 61]⟩, tyv k s, tyv k' s'] w fun e w' => e = .returned (.tuple #[tyv (binC 3 k s k' s') ⟨#[]⟩, .bool (decide (binC 3 k s k' s' ≠ 0))]) ∧ Below w.heap.size w w' := by
  obtain ⟨v, hv⟩ : ∃ v, cmB k s k' s' = v := ⟨_, rfl⟩
  have HC : Hid (∀ W, Calls Tryz.prog 26 #[tyv k s, tyv k' s'] W fun e w' => e = .returned (.bool v) ∧ Below W.heap.size W w') := Lib.hid fun W => hv ▸ rcompare_any k s k' s' W hm hm'
  have HV : Hid (binC 3 k s k' s' = if v then 2 else 0) := Lib.hid (by unfold binC; rw [hv]; simp)
  rw [HV.out]
  clear hv
  cases v with
  | false =>
    show Calls Tryz.prog 28 _ w fun e w' => e = .returned (.tuple #[tyv 0 ⟨#[]⟩, .bool false]) ∧ _
    go_enter Tryz.func28, Tryz.ntmps28
    go_wp2_with fail
    refine (HC.out _).mono ?_
    rintro e w1 ⟨rfl, hb⟩
    obtain ⟨q6, q9, hz, hB⟩ := five hb
    have HB := Lib.hid hB
    obtain ⟨c60, c61, c6f⟩ := box2 q6
    obtain ⟨c90, c91, c9f⟩ := box2 q9
    have f60 := c6f 0
    have f61 := c6f 1
    clear hb q6 q9 hB c6f c9f
    go_wp2
    refine bodyPost_ret (v := .tuple #[tyv 0 ⟨#[]⟩, .bool false]) (by simp [results, Tryz.results28, go_sem, hz, c60, c61, f60, f61]) rfl ⟨rfl, ?_⟩
    exact (HB.out.setCell (by simp; omega) _).setCell (by simp; omega) _
  | true =>
    show Calls Tryz.prog 28 _ w fun e w' => e = .returned (.tuple #[tyv 2 ⟨#[]⟩, .bool true]) ∧ _
    go_enter Tryz.func28, Tryz.ntmps28
    go_wp2_with fail
    refine (HC.out _).mono ?_
    rintro e w1 ⟨rfl, hb⟩
    obtain ⟨q6, q9, hz, hB⟩ := five hb
    have HB := Lib.hid hB
    obtain ⟨c60, c61, c6f⟩ := box2 q6
    obtain ⟨c90, c91, c9f⟩ := box2 q9
    have f60 := c6f 0
    have f61 := c6f 1
    clear hb q6 q9 hB c6f c9f
    go_wp2
    refine bodyPost_ret (v := .tuple #[tyv 2 ⟨#[]⟩, .bool true]) (by simp [results, Tryz.results28, go_sem, hz, c60, c61, f60, f61]) rfl ⟨rfl, ?_⟩
    exact (HB.out.setCell (by simp; omega) _).setCell (by simp; omega) _
set_option maxRecDepth 100000 in
set_option maxHeartbeats 4000000 in
theorem rbin_3838 (k : Int) (s : ByteArray) (k' : Int) (s' : ByteArray) (w : World) (hm : s.size ≤ maxLen) (hm' : s'.size ≤ maxLen) :
    Calls Tryz.prog 28 #[.string ⟨#[38, 38]⟩, tyv k s, tyv k' s'] w fun e w' => e = .returned (.tuple #[tyv (binC 4 k s k' s') ⟨#[]⟩, .bool (decide (binC 4 k s k' s' ≠ 0))]) ∧ Below w.heap.size w w' := by
  go_enter Tryz.func28, Tryz.ntmps28
  go_wp2_with fail
  all_goals refine bodyPost_ret (v := .tuple #[tyv (binC 4 k s k' s') ⟨#[]⟩, .bool (decide (binC 4 k s k' s' ≠ 0))]) (by unfold binC isK emp; simp_all [results, Tryz.results28, go_sem]) rfl ⟨rfl, ?_⟩
  all_goals repeat' (first | exact Below.refl _ _ | exact HB.out | apply Below.setCell | apply Below.alloc)
  all_goals simp
  all_goals (try omega)
set_option maxRecDepth 100000 in
set_option maxHeartbeats 4000000 in
theorem rbin_124124 (k : Int) (s : ByteArray) (k' : Int) (s' : ByteArray) (w : World) (hm : s.size ≤ maxLen) (hm' : s'.size ≤ maxLen) :
    Calls Tryz.prog 28 #[.string ⟨#[124, 124]⟩, tyv k s, tyv k' s'] w fun e w' => e = .returned (.tuple #[tyv (binC 4 k s k' s') ⟨#[]⟩, .bool (decide (binC 4 k s k' s' ≠ 0))]) ∧ Below w.heap.size w w' := by
  go_enter Tryz.func28, Tryz.ntmps28
  go_wp2_with fail
  all_goals refine bodyPost_ret (v := .tuple #[tyv (binC 4 k s k' s') ⟨#[]⟩, .bool (decide (binC 4 k s k' s' ≠ 0))]) (by unfold binC isK emp; simp_all [results, Tryz.results28, go_sem]) rfl ⟨rfl, ?_⟩
  all_goals repeat' (first | exact Below.refl _ _ | exact HB.out | apply Below.setCell | apply Below.alloc)
  all_goals simp
  all_goals (try omega)
set_option maxRecDepth 100000 in
set_option maxHeartbeats 4000000 in
theorem rbin_no (op : ByteArray) (k : Int) (s : ByteArray) (k' : Int) (s' : ByteArray) (w : World) (h43 : (op.toList == [43]) = false) (h45 : (op.toList == [45]) = false) (h42 : (op.toList == [42]) = false) (h47 : (op.toList == [47]) = false) (h37 : (op.toList == [37]) = false) (h60 : (op.toList == [60]) = false) (h6061 : (op.toList == [60, 61]) = false) (h62 : (op.toList == [62]) = false) (h6261 : (op.toList == [62, 61]) = false) (h6161 : (op.toList == [61, 61]) = false) (h3361 : (op.toList == [33, 61]) = false) (h3838 : (op.toList == [38, 38]) = false) (h124124 : (op.toList == [124, 124]) = false) :
    Calls Tryz.prog 28 #[.string op, tyv k s, tyv k' s'] w fun e w' => e = .returned (.tuple #[tyv 0 ⟨#[]⟩, .bool false]) ∧ Below w.heap.size w w' := by
  go_enter Tryz.func28, Tryz.ntmps28
  go_wp2_with fail

  refine bodyPost_ret (v := .tuple #[tyv 0 ⟨#[]⟩, .bool false]) (by simp [results, Tryz.results28, go_sem]) rfl ⟨rfl, ?_⟩
  all_goals repeat' (first | exact Below.refl _ _ | exact HB.out | apply Below.setCell | apply Below.alloc)
  all_goals simp
  all_goals (try omega)
end Go.Proofs.YtijhdlmnoinfiaaGreatDoor
