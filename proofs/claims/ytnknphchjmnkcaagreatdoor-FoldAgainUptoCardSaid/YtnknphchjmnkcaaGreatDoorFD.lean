/-
  The walks of the program's integer, boolean, unary, ofIntegers, ofBooleans, binary, isLiteral (package fold).
-/
import Derived.Test.YtnknphchjmnkcaaGreatDoorFC
import Derived.Test.YtnknphchjmnkcaaGreatDoorCA
set_option linter.all false
namespace Go.Proofs.YtnknphchjmnkcaaGreatDoor
open Go.RowKit T T.Fo
theorem fbcell {W w1 : World} (hb : Below W.heap.size W w1) : (∀ b o, b < W.heap.size → w1.cell? ⟨b, o, none⟩ = W.cell? ⟨b, o, none⟩) ∧ (∀ b o, b < W.heap.size → w1.frozen? ⟨b, o, none⟩ = W.frozen? ⟨b, o, none⟩) :=
  ⟨fun b o h => hb.cell (p := ⟨b, o, none⟩) h, fun b o h => hb.frozen (p := ⟨b, o, none⟩) h⟩
theorem ba_of {a b : ByteArray} (h : a.toList = b.toList) : a = b := by
  rw [ByteArray.toList_eq, ByteArray.toList_eq] at h
  exact ByteArray.ext (Array.toList_inj.1 h)
theorem fbel1 {w w2 : World} {o1 : Obj} (hb : Below (w.alloc o1).heap.size (w.alloc o1) w2) : Below w.heap.size w w2 :=
  ((Below.refl _ _).alloc (Nat.le_refl _) _).trans (hb.mono (by simp))
theorem fbel2 {w w2 : World} {o1 o2 : Obj} (hb : Below ((w.alloc o1).alloc o2).heap.size ((w.alloc o1).alloc o2) w2) : Below w.heap.size w w2 :=
  fbel1 (o1 := o1) (fbel1 hb)
theorem fbel3 {w w2 : World} {o1 o2 o3 : Obj} (hb : Below (((w.alloc o1).alloc o2).alloc o3).heap.size (((w.alloc o1).alloc o2).alloc o3) w2) : Below w.heap.size w w2 :=
  fbel1 (o1 := o1) (fbel2 hb)
/-- A constant's value. -/
abbrev cvv (c : Cv) : Value := .agg #[.int .i64 c.k, .int .i64 c.v]
def RetC (c : Cv) (w : World) (e : Ending) (w' : World) : Prop := e = .returned (cvv c) ∧ Below w.heap.size w w'
theorem RetC.of {c c' : Cv} {w : World} {e : Ending} {w' : World} (h : c = c') (H : RetC c w e w') : RetC c' w e w' := h ▸ H
set_option maxRecDepth 100000

theorem integer_any (a : Int) (w : World) : Calls Tryz.prog 83 #[.int .i64 a] w (RetC ⟨24, a⟩ w) := by
  go_enter Tryz.func83, Tryz.ntmps83
  go_wp2
  refine bodyPost_ret (v := cvv ⟨24, a⟩) (by simp [results, Tryz.results83, go_sem]) rfl ⟨rfl, ?_⟩
  repeat' (first | exact Below.refl _ _ | exact hb | exact fbel1 hb | exact fbel2 hb | exact fbel3 hb | apply Below.setCell | apply Below.alloc | apply Below.drew)
  all_goals (try simp)
  all_goals (try omega)

theorem boolean_true (w : World) : Calls Tryz.prog 84 #[.bool true] w (RetC (ofB true) w) := by
  go_enter Tryz.func84, Tryz.ntmps84
  go_wp2
  refine bodyPost_ret (v := cvv (ofB true)) (by simp [results, Tryz.results84, go_sem, ofB]) rfl ⟨rfl, ?_⟩
  repeat' (first | exact Below.refl _ _ | exact hb | exact fbel1 hb | exact fbel2 hb | exact fbel3 hb | apply Below.setCell | apply Below.alloc | apply Below.drew)
  all_goals (try simp)
  all_goals (try omega)

theorem boolean_false (w : World) : Calls Tryz.prog 84 #[.bool false] w (RetC (ofB false) w) := by
  go_enter Tryz.func84, Tryz.ntmps84
  go_wp2
  refine bodyPost_ret (v := cvv (ofB false)) (by simp [results, Tryz.results84, go_sem, ofB]) rfl ⟨rfl, ?_⟩
  repeat' (first | exact Below.refl _ _ | exact hb | exact fbel1 hb | exact fbel2 hb | exact fbel3 hb | apply Below.setCell | apply Below.alloc | apply Below.drew)
  all_goals (try simp)
  all_goals (try omega)

theorem fboolean_any (b : Bool) (w : World) : Calls Tryz.prog 84 #[.bool b] w (RetC (ofB b) w) := by
  cases b
  · exact boolean_false w
  · exact boolean_true w

theorem funary_neg (v : Int) (w : World) : Calls Tryz.prog 57 #[.string ⟨#[45]⟩, .agg #[.int .i64 24, .int .i64 v]] w (RetC (ofI (-v)) w) := by
  go_enter Tryz.func57, Tryz.ntmps57
  go_wp2_with (go_at_call 83; (with_reducible refine (integer_any _ _).mono ?_); rintro e w2 ⟨rfl, hb⟩; obtain ⟨hc, hf⟩ := fbcell hb; have hz : w.heap.size + 1 < w2.heap.size := by have := hb.size; simp at this; omega)
  refine bodyPost_ret (v := cvv (ofI (-v))) (by simp [results, Tryz.results57, go_sem, hc, hf, hz, ofB, ofI]) rfl ⟨rfl, ?_⟩
  repeat' (first | exact Below.refl _ _ | exact hb | exact fbel1 hb | exact fbel2 hb | exact fbel3 hb | apply Below.setCell | apply Below.alloc | apply Below.drew)
  all_goals (try simp)
  all_goals (try omega)

theorem funary_not (v : Int) (w : World) : Calls Tryz.prog 57 #[.string ⟨#[33]⟩, .agg #[.int .i64 25, .int .i64 v]] w (RetC (ofB (v == 0)) w) := by
  go_enter Tryz.func57, Tryz.ntmps57
  go_wp2_with (go_at_call 84; (with_reducible refine (fboolean_any _ _).mono ?_); rintro e w2 ⟨rfl, hb⟩; obtain ⟨hc, hf⟩ := fbcell hb; have hz : w.heap.size + 1 < w2.heap.size := by have := hb.size; simp at this; omega)
  refine bodyPost_ret (v := cvv (ofB (v == 0))) (by simp [results, Tryz.results57, go_sem, hc, hf, hz, ofB, ofI]) rfl ⟨rfl, ?_⟩
  repeat' (first | exact Below.refl _ _ | exact hb | exact fbel1 hb | exact fbel2 hb | exact fbel3 hb | apply Below.setCell | apply Below.alloc | apply Below.drew)
  all_goals (try simp)
  all_goals (try omega)

theorem funary_k45 (k v : Int) (w : World) (h : (k == 24) = false) : Calls Tryz.prog 57 #[.string ⟨#[45]⟩, .agg #[.int .i64 k, .int .i64 v]] w (RetC no w) := by
  go_enter Tryz.func57, Tryz.ntmps57
  go_wp2
  refine bodyPost_ret (v := cvv no) (by simp [results, Tryz.results57, go_sem, no]) rfl ⟨rfl, ?_⟩
  repeat' (first | exact Below.refl _ _ | exact hb | exact fbel1 hb | exact fbel2 hb | exact fbel3 hb | apply Below.setCell | apply Below.alloc | apply Below.drew)
  all_goals (try simp)
  all_goals (try omega)

theorem funary_k33 (k v : Int) (w : World) (h : (k == 25) = false) : Calls Tryz.prog 57 #[.string ⟨#[33]⟩, .agg #[.int .i64 k, .int .i64 v]] w (RetC no w) := by
  go_enter Tryz.func57, Tryz.ntmps57
  go_wp2
  refine bodyPost_ret (v := cvv no) (by simp [results, Tryz.results57, go_sem, no]) rfl ⟨rfl, ?_⟩
  repeat' (first | exact Below.refl _ _ | exact hb | exact fbel1 hb | exact fbel2 hb | exact fbel3 hb | apply Below.setCell | apply Below.alloc | apply Below.drew)
  all_goals (try simp)
  all_goals (try omega)

theorem funary_o (t : ByteArray) (k v : Int) (w : World) (h : (t.toList == [45]) = false) (h' : (t.toList == [33]) = false) : Calls Tryz.prog 57 #[.string t, .agg #[.int .i64 k, .int .i64 v]] w (RetC no w) := by
  go_enter Tryz.func57, Tryz.ntmps57
  go_wp2
  refine bodyPost_ret (v := cvv no) (by simp [results, Tryz.results57, go_sem, no]) rfl ⟨rfl, ?_⟩
  repeat' (first | exact Below.refl _ _ | exact hb | exact fbel1 hb | exact fbel2 hb | exact fbel3 hb | apply Below.setCell | apply Below.alloc | apply Below.drew)
  all_goals (try simp)
  all_goals (try omega)

theorem funary_any (t : ByteArray) (c : Cv) (w : World) : Calls Tryz.prog 57 #[.string t, cvv c] w (RetC (unL t.toList c) w) := by
  obtain ⟨k, v⟩ := c
  by_cases h45 : t.toList = [45]
  · obtain rfl : t = ⟨#[45]⟩ := ba_of (h45.trans (by rw [ByteArray.toList_eq]))
    rw [h45]
    by_cases hk : k = 24
    · subst hk
      have e : unL [45] ⟨24, v⟩ = ofI (-v) := by simp [unL]
      rw [e]; exact funary_neg v w
    · have e : unL [45] ⟨k, v⟩ = no := by simp [unL, hk]
      rw [e]; exact funary_k45 k v w (by simpa using hk)
  · by_cases h33 : t.toList = [33]
    · obtain rfl : t = ⟨#[33]⟩ := ba_of (h33.trans (by rw [ByteArray.toList_eq]))
      rw [h33]
      by_cases hk : k = 25
      · subst hk
        have e : unL [33] ⟨25, v⟩ = ofB (v == 0) := by simp [unL]
        rw [e]; exact funary_not v w
      · have e : unL [33] ⟨k, v⟩ = no := by simp [unL, hk]
        rw [e]; exact funary_k33 k v w (by simpa using hk)
    · have e : unL t.toList ⟨k, v⟩ = no := by simp [unL, h45, h33]
      rw [e]; exact funary_o t k v w (by simpa using h45) (by simpa using h33)

theorem fints_43 (a b : Int) (w : World) : Calls Tryz.prog 85 #[.string ⟨#[43]⟩, .int .i64 a, .int .i64 b] w (RetC (ofI (a + b)) w) := by
  go_enter Tryz.func85, Tryz.ntmps85
  go_wp2_with (go_at_call 83; (with_reducible refine (integer_any _ _).mono ?_); rintro e w2 ⟨rfl, hb⟩; obtain ⟨hc, hf⟩ := fbcell hb; have hz : w.heap.size + 0 < w2.heap.size := by have := hb.size; simp at this; omega)
  refine bodyPost_ret (v := cvv (ofI (a + b))) (by simp [results, Tryz.results85, go_sem, hc, hf, hz, ofB, ofI]) rfl ⟨rfl, ?_⟩
  repeat' (first | exact Below.refl _ _ | exact hb | exact fbel1 hb | exact fbel2 hb | exact fbel3 hb | apply Below.setCell | apply Below.alloc | apply Below.drew)
  all_goals (try simp)
  all_goals (try omega)

theorem fints_45 (a b : Int) (w : World) : Calls Tryz.prog 85 #[.string ⟨#[45]⟩, .int .i64 a, .int .i64 b] w (RetC (ofI (a - b)) w) := by
  go_enter Tryz.func85, Tryz.ntmps85
  go_wp2_with (go_at_call 83; (with_reducible refine (integer_any _ _).mono ?_); rintro e w2 ⟨rfl, hb⟩; obtain ⟨hc, hf⟩ := fbcell hb; have hz : w.heap.size + 0 < w2.heap.size := by have := hb.size; simp at this; omega)
  refine bodyPost_ret (v := cvv (ofI (a - b))) (by simp [results, Tryz.results85, go_sem, hc, hf, hz, ofB, ofI]) rfl ⟨rfl, ?_⟩
  repeat' (first | exact Below.refl _ _ | exact hb | exact fbel1 hb | exact fbel2 hb | exact fbel3 hb | apply Below.setCell | apply Below.alloc | apply Below.drew)
  all_goals (try simp)
  all_goals (try omega)

theorem fints_42 (a b : Int) (w : World) : Calls Tryz.prog 85 #[.string ⟨#[42]⟩, .int .i64 a, .int .i64 b] w (RetC (ofI (a * b)) w) := by
  go_enter Tryz.func85, Tryz.ntmps85
  go_wp2_with (go_at_call 83; (with_reducible refine (integer_any _ _).mono ?_); rintro e w2 ⟨rfl, hb⟩; obtain ⟨hc, hf⟩ := fbcell hb; have hz : w.heap.size + 0 < w2.heap.size := by have := hb.size; simp at this; omega)
  refine bodyPost_ret (v := cvv (ofI (a * b))) (by simp [results, Tryz.results85, go_sem, hc, hf, hz, ofB, ofI]) rfl ⟨rfl, ?_⟩
  repeat' (first | exact Below.refl _ _ | exact hb | exact fbel1 hb | exact fbel2 hb | exact fbel3 hb | apply Below.setCell | apply Below.alloc | apply Below.drew)
  all_goals (try simp)
  all_goals (try omega)

theorem fints_47 (a b : Int) (w : World) (h0 : ¬ b = 0) (h1 : (b == 0) = false) (h2 : (b != 0) = true) : Calls Tryz.prog 85 #[.string ⟨#[47]⟩, .int .i64 a, .int .i64 b] w (RetC (ofI (a.tdiv b)) w) := by
  go_enter Tryz.func85, Tryz.ntmps85
  go_wp2_with (go_at_call 83; (with_reducible refine (integer_any _ _).mono ?_); rintro e w2 ⟨rfl, hb⟩; obtain ⟨hc, hf⟩ := fbcell hb; have hz : w.heap.size + 0 < w2.heap.size := by have := hb.size; simp at this; omega)
  refine bodyPost_ret (v := cvv (ofI (a.tdiv b))) (by simp [results, Tryz.results85, go_sem, hc, hf, hz, ofB, ofI]) rfl ⟨rfl, ?_⟩
  repeat' (first | exact Below.refl _ _ | exact hb | exact fbel1 hb | exact fbel2 hb | exact fbel3 hb | apply Below.setCell | apply Below.alloc | apply Below.drew)
  all_goals (try simp)
  all_goals (try omega)

theorem fints_37 (a b : Int) (w : World) (h0 : ¬ b = 0) (h1 : (b == 0) = false) (h2 : (b != 0) = true) : Calls Tryz.prog 85 #[.string ⟨#[37]⟩, .int .i64 a, .int .i64 b] w (RetC ⟨24, a.tmod b⟩ w) := by
  go_enter Tryz.func85, Tryz.ntmps85
  go_wp2_with (go_at_call 83; (with_reducible refine (integer_any _ _).mono ?_); rintro e w2 ⟨rfl, hb⟩; obtain ⟨hc, hf⟩ := fbcell hb; have hz : w.heap.size + 0 < w2.heap.size := by have := hb.size; simp at this; omega)
  refine bodyPost_ret (v := cvv ⟨24, a.tmod b⟩) (by simp [results, Tryz.results85, go_sem, hc, hf, hz, ofB, ofI]) rfl ⟨rfl, ?_⟩
  repeat' (first | exact Below.refl _ _ | exact hb | exact fbel1 hb | exact fbel2 hb | exact fbel3 hb | apply Below.setCell | apply Below.alloc | apply Below.drew)
  all_goals (try simp)
  all_goals (try omega)

theorem fints_470 (a : Int) (w : World) : Calls Tryz.prog 85 #[.string ⟨#[47]⟩, .int .i64 a, .int .i64 0] w (RetC no w) := by
  go_enter Tryz.func85, Tryz.ntmps85
  go_wp2
  refine bodyPost_ret (v := cvv no) (by simp [results, Tryz.results85, go_sem, no]) rfl ⟨rfl, ?_⟩
  repeat' (first | exact Below.refl _ _ | exact hb | exact fbel1 hb | exact fbel2 hb | exact fbel3 hb | apply Below.setCell | apply Below.alloc | apply Below.drew)
  all_goals (try simp)
  all_goals (try omega)

theorem fints_370 (a : Int) (w : World) : Calls Tryz.prog 85 #[.string ⟨#[37]⟩, .int .i64 a, .int .i64 0] w (RetC no w) := by
  go_enter Tryz.func85, Tryz.ntmps85
  go_wp2
  refine bodyPost_ret (v := cvv no) (by simp [results, Tryz.results85, go_sem, no]) rfl ⟨rfl, ?_⟩
  repeat' (first | exact Below.refl _ _ | exact hb | exact fbel1 hb | exact fbel2 hb | exact fbel3 hb | apply Below.setCell | apply Below.alloc | apply Below.drew)
  all_goals (try simp)
  all_goals (try omega)

theorem fints_60 (a b : Int) (w : World) : Calls Tryz.prog 85 #[.string ⟨#[60]⟩, .int .i64 a, .int .i64 b] w (RetC (ofB (decide (a < b))) w) := by
  go_enter Tryz.func85, Tryz.ntmps85
  go_wp2_with (go_at_call 84; (with_reducible refine (fboolean_any _ _).mono ?_); rintro e w2 ⟨rfl, hb⟩; obtain ⟨hc, hf⟩ := fbcell hb; have hz : w.heap.size + 0 < w2.heap.size := by have := hb.size; simp at this; omega)
  refine bodyPost_ret (v := cvv (ofB (decide (a < b)))) (by simp [results, Tryz.results85, go_sem, hc, hf, hz, ofB, ofI]) rfl ⟨rfl, ?_⟩
  repeat' (first | exact Below.refl _ _ | exact hb | exact fbel1 hb | exact fbel2 hb | exact fbel3 hb | apply Below.setCell | apply Below.alloc | apply Below.drew)
  all_goals (try simp)
  all_goals (try omega)

theorem fints_6061 (a b : Int) (w : World) : Calls Tryz.prog 85 #[.string ⟨#[60, 61]⟩, .int .i64 a, .int .i64 b] w (RetC (ofB (decide (a ≤ b))) w) := by
  go_enter Tryz.func85, Tryz.ntmps85
  go_wp2_with (go_at_call 84; (with_reducible refine (fboolean_any _ _).mono ?_); rintro e w2 ⟨rfl, hb⟩; obtain ⟨hc, hf⟩ := fbcell hb; have hz : w.heap.size + 0 < w2.heap.size := by have := hb.size; simp at this; omega)
  refine bodyPost_ret (v := cvv (ofB (decide (a ≤ b)))) (by simp [results, Tryz.results85, go_sem, hc, hf, hz, ofB, ofI]) rfl ⟨rfl, ?_⟩
  repeat' (first | exact Below.refl _ _ | exact hb | exact fbel1 hb | exact fbel2 hb | exact fbel3 hb | apply Below.setCell | apply Below.alloc | apply Below.drew)
  all_goals (try simp)
  all_goals (try omega)

theorem fints_62 (a b : Int) (w : World) : Calls Tryz.prog 85 #[.string ⟨#[62]⟩, .int .i64 a, .int .i64 b] w (RetC (ofB (decide (b < a))) w) := by
  go_enter Tryz.func85, Tryz.ntmps85
  go_wp2_with (go_at_call 84; (with_reducible refine (fboolean_any _ _).mono ?_); rintro e w2 ⟨rfl, hb⟩; obtain ⟨hc, hf⟩ := fbcell hb; have hz : w.heap.size + 0 < w2.heap.size := by have := hb.size; simp at this; omega)
  refine bodyPost_ret (v := cvv (ofB (decide (b < a)))) (by simp [results, Tryz.results85, go_sem, hc, hf, hz, ofB, ofI]) rfl ⟨rfl, ?_⟩
  repeat' (first | exact Below.refl _ _ | exact hb | exact fbel1 hb | exact fbel2 hb | exact fbel3 hb | apply Below.setCell | apply Below.alloc | apply Below.drew)
  all_goals (try simp)
  all_goals (try omega)

theorem fints_6261 (a b : Int) (w : World) : Calls Tryz.prog 85 #[.string ⟨#[62, 61]⟩, .int .i64 a, .int .i64 b] w (RetC (ofB (decide (b ≤ a))) w) := by
  go_enter Tryz.func85, Tryz.ntmps85
  go_wp2_with (go_at_call 84; (with_reducible refine (fboolean_any _ _).mono ?_); rintro e w2 ⟨rfl, hb⟩; obtain ⟨hc, hf⟩ := fbcell hb; have hz : w.heap.size + 0 < w2.heap.size := by have := hb.size; simp at this; omega)
  refine bodyPost_ret (v := cvv (ofB (decide (b ≤ a)))) (by simp [results, Tryz.results85, go_sem, hc, hf, hz, ofB, ofI]) rfl ⟨rfl, ?_⟩
  repeat' (first | exact Below.refl _ _ | exact hb | exact fbel1 hb | exact fbel2 hb | exact fbel3 hb | apply Below.setCell | apply Below.alloc | apply Below.drew)
  all_goals (try simp)
  all_goals (try omega)

theorem fints_o (t : ByteArray) (a b : Int) (w : World) (h43 : (t.toList == [43]) = false) (h45 : (t.toList == [45]) = false) (h42 : (t.toList == [42]) = false) (h47 : (t.toList == [47]) = false) (h37 : (t.toList == [37]) = false) (h60 : (t.toList == [60]) = false) (h6061 : (t.toList == [60, 61]) = false) (h62 : (t.toList == [62]) = false) (h6261 : (t.toList == [62, 61]) = false) : Calls Tryz.prog 85 #[.string t, .int .i64 a, .int .i64 b] w (RetC no w) := by
  go_enter Tryz.func85, Tryz.ntmps85
  go_wp2
  refine bodyPost_ret (v := cvv no) (by simp [results, Tryz.results85, go_sem, no]) rfl ⟨rfl, ?_⟩
  repeat' (first | exact Below.refl _ _ | exact hb | exact fbel1 hb | exact fbel2 hb | exact fbel3 hb | apply Below.setCell | apply Below.alloc | apply Below.drew)
  all_goals (try simp)
  all_goals (try omega)

theorem fints_any (t : ByteArray) (a b : Int) (w : World) : Calls Tryz.prog 85 #[.string t, .int .i64 a, .int .i64 b] w (RetC (intsL t.toList a b) w) := by
  by_cases h43 : t.toList = [43]
  · obtain rfl : t = ⟨#[43]⟩ := ba_of (h43.trans (by rw [ByteArray.toList_eq]))
    rw [h43]
    exact (fints_43 a b w).mono fun e w' H => H.of (by simp [intsL])
  by_cases h45 : t.toList = [45]
  · obtain rfl : t = ⟨#[45]⟩ := ba_of (h45.trans (by rw [ByteArray.toList_eq]))
    rw [h45]
    exact (fints_45 a b w).mono fun e w' H => H.of (by simp [intsL])
  by_cases h42 : t.toList = [42]
  · obtain rfl : t = ⟨#[42]⟩ := ba_of (h42.trans (by rw [ByteArray.toList_eq]))
    rw [h42]
    exact (fints_42 a b w).mono fun e w' H => H.of (by simp [intsL])
  by_cases h47 : t.toList = [47]
  · obtain rfl : t = ⟨#[47]⟩ := ba_of (h47.trans (by rw [ByteArray.toList_eq]))
    rw [h47]
    by_cases h0 : b = 0
    · subst h0
      exact (fints_470 a w).mono fun e w' H => H.of (by simp [intsL])
    · exact (fints_47 a b w h0 (by simpa using h0) (by simpa using h0)).mono fun e w' H => H.of (by simp [intsL, h0])
  by_cases h37 : t.toList = [37]
  · obtain rfl : t = ⟨#[37]⟩ := ba_of (h37.trans (by rw [ByteArray.toList_eq]))
    rw [h37]
    by_cases h0 : b = 0
    · subst h0
      exact (fints_370 a w).mono fun e w' H => H.of (by simp [intsL])
    · exact (fints_37 a b w h0 (by simpa using h0) (by simpa using h0)).mono fun e w' H => H.of (by simp [intsL, h0])
  by_cases h60 : t.toList = [60]
  · obtain rfl : t = ⟨#[60]⟩ := ba_of (h60.trans (by rw [ByteArray.toList_eq]))
    rw [h60]
    exact (fints_60 a b w).mono fun e w' H => H.of (by simp [intsL])
  by_cases h6061 : t.toList = [60, 61]
  · obtain rfl : t = ⟨#[60, 61]⟩ := ba_of (h6061.trans (by rw [ByteArray.toList_eq]))
    rw [h6061]
    exact (fints_6061 a b w).mono fun e w' H => H.of (by simp [intsL])
  by_cases h62 : t.toList = [62]
  · obtain rfl : t = ⟨#[62]⟩ := ba_of (h62.trans (by rw [ByteArray.toList_eq]))
    rw [h62]
    exact (fints_62 a b w).mono fun e w' H => H.of (by simp [intsL])
  by_cases h6261 : t.toList = [62, 61]
  · obtain rfl : t = ⟨#[62, 61]⟩ := ba_of (h6261.trans (by rw [ByteArray.toList_eq]))
    rw [h6261]
    exact (fints_6261 a b w).mono fun e w' H => H.of (by simp [intsL])
  exact (fints_o t a b w (by simpa using h43) (by simpa using h45) (by simpa using h42) (by simpa using h47) (by simpa using h37) (by simpa using h60) (by simpa using h6061) (by simpa using h62) (by simpa using h6261)).mono fun e w' H => H.of (by simp [intsL, h43, h45, h42, h47, h37, h60, h6061, h62, h6261])

theorem fbools_3838 (a b : Bool) (w : World) : Calls Tryz.prog 86 #[.string ⟨#[38, 38]⟩, .bool a, .bool b] w (RetC (ofB (a && b)) w) := by
  cases a <;> cases b
  all_goals
    go_enter Tryz.func86, Tryz.ntmps86
    go_wp2_with (go_at_call 84; (with_reducible refine (fboolean_any _ _).mono ?_); rintro e w2 ⟨rfl, hb⟩; obtain ⟨hc, hf⟩ := fbcell hb; have hz : w.heap.size + 0 < w2.heap.size := by have := hb.size; simp at this; omega)
    refine bodyPost_ret (v := _) (by simp [results, Tryz.results86, go_sem, hc, hf, hz, ofB]) rfl ⟨rfl, ?_⟩
    repeat' (first | exact Below.refl _ _ | exact hb | exact fbel1 hb | exact fbel2 hb | exact fbel3 hb | apply Below.setCell | apply Below.alloc | apply Below.drew)
    all_goals (try simp)
    all_goals (try omega)

theorem fbools_124124 (a b : Bool) (w : World) : Calls Tryz.prog 86 #[.string ⟨#[124, 124]⟩, .bool a, .bool b] w (RetC (ofB (a || b)) w) := by
  cases a <;> cases b
  all_goals
    go_enter Tryz.func86, Tryz.ntmps86
    go_wp2_with (go_at_call 84; (with_reducible refine (fboolean_any _ _).mono ?_); rintro e w2 ⟨rfl, hb⟩; obtain ⟨hc, hf⟩ := fbcell hb; have hz : w.heap.size + 0 < w2.heap.size := by have := hb.size; simp at this; omega)
    refine bodyPost_ret (v := _) (by simp [results, Tryz.results86, go_sem, hc, hf, hz, ofB]) rfl ⟨rfl, ?_⟩
    repeat' (first | exact Below.refl _ _ | exact hb | exact fbel1 hb | exact fbel2 hb | exact fbel3 hb | apply Below.setCell | apply Below.alloc | apply Below.drew)
    all_goals (try simp)
    all_goals (try omega)

theorem fbools_o (t : ByteArray) (a b : Bool) (w : World) (h1 : (t.toList == [38, 38]) = false) (h2 : (t.toList == [124, 124]) = false) : Calls Tryz.prog 86 #[.string t, .bool a, .bool b] w (RetC no w) := by
  go_enter Tryz.func86, Tryz.ntmps86
  go_wp2
  refine bodyPost_ret (v := cvv no) (by simp [results, Tryz.results86, go_sem, no]) rfl ⟨rfl, ?_⟩
  repeat' (first | exact Below.refl _ _ | exact hb | exact fbel1 hb | exact fbel2 hb | exact fbel3 hb | apply Below.setCell | apply Below.alloc | apply Below.drew)
  all_goals (try simp)
  all_goals (try omega)

theorem fbools_any (t : ByteArray) (a b : Bool) (w : World) : Calls Tryz.prog 86 #[.string t, .bool a, .bool b] w (RetC (boolsL t.toList a b) w) := by
  by_cases h1 : t.toList = [38, 38]
  · obtain rfl : t = ⟨#[38, 38]⟩ := ba_of (h1.trans (by rw [ByteArray.toList_eq]))
    rw [h1]
    exact (fbools_3838 a b w).mono fun e w' H => H.of (by simp [boolsL])
  by_cases h2 : t.toList = [124, 124]
  · obtain rfl : t = ⟨#[124, 124]⟩ := ba_of (h2.trans (by rw [ByteArray.toList_eq]))
    rw [h2]
    exact (fbools_124124 a b w).mono fun e w' H => H.of (by simp [boolsL])
  exact (fbools_o t a b w (by simpa using h1) (by simpa using h2)).mono fun e w' H => H.of (by simp [boolsL, h1, h2])

theorem fbin_ne (t : ByteArray) (k v k' v' : Int) (w : World) (h : (k == k') = false) (h' : (k != k') = true) : Calls Tryz.prog 58 #[.string t, .agg #[.int .i64 k, .int .i64 v], .agg #[.int .i64 k', .int .i64 v']] w (RetC no w) := by
  go_enter Tryz.func58, Tryz.ntmps58
  go_wp2
  refine bodyPost_ret (v := cvv no) (by simp [results, Tryz.results58, go_sem, no]) rfl ⟨rfl, ?_⟩
  repeat' (first | exact Below.refl _ _ | exact hb | exact fbel1 hb | exact fbel2 hb | exact fbel3 hb | apply Below.setCell | apply Below.alloc | apply Below.drew)
  all_goals (try simp)
  all_goals (try omega)

theorem fbin_eq (k v v' : Int) (w : World) (e1 : (k == k) = true) (e2 : (k != k) = false) : Calls Tryz.prog 58 #[.string ⟨#[61, 61]⟩, .agg #[.int .i64 k, .int .i64 v], .agg #[.int .i64 k, .int .i64 v']] w (RetC (ofB (v == v')) w) := by
  go_enter Tryz.func58, Tryz.ntmps58
  go_wp2_with (go_at_call 84; (with_reducible refine (fboolean_any _ _).mono ?_); rintro e w2 ⟨rfl, hb⟩; obtain ⟨hc, hf⟩ := fbcell hb; have hz : w.heap.size + 2 < w2.heap.size := by have := hb.size; simp at this; omega)
  refine bodyPost_ret (v := cvv (ofB (v == v'))) (by simp [results, Tryz.results58, go_sem, hc, hf, hz, ofB]) rfl ⟨rfl, ?_⟩
  repeat' (first | exact Below.refl _ _ | exact hb | exact fbel1 hb | exact fbel2 hb | exact fbel3 hb | apply Below.setCell | apply Below.alloc | apply Below.drew)
  all_goals (try simp)
  all_goals (try omega)

theorem fbin_nq (k v v' : Int) (w : World) (e1 : (k == k) = true) (e2 : (k != k) = false) : Calls Tryz.prog 58 #[.string ⟨#[33, 61]⟩, .agg #[.int .i64 k, .int .i64 v], .agg #[.int .i64 k, .int .i64 v']] w (RetC (ofB (v != v')) w) := by
  go_enter Tryz.func58, Tryz.ntmps58
  go_wp2_with (go_at_call 84; (with_reducible refine (fboolean_any _ _).mono ?_); rintro e w2 ⟨rfl, hb⟩; obtain ⟨hc, hf⟩ := fbcell hb; have hz : w.heap.size + 2 < w2.heap.size := by have := hb.size; simp at this; omega)
  refine bodyPost_ret (v := cvv (ofB (v != v'))) (by simp [results, Tryz.results58, go_sem, hc, hf, hz, ofB]) rfl ⟨rfl, ?_⟩
  repeat' (first | exact Below.refl _ _ | exact hb | exact fbel1 hb | exact fbel2 hb | exact fbel3 hb | apply Below.setCell | apply Below.alloc | apply Below.drew)
  all_goals (try simp)
  all_goals (try omega)

theorem fbin_i (t : ByteArray) (v v' : Int) (w : World) (c : Cv) (hc0 : intsL t.toList v v' = c) (h1 : (t.toList == [61, 61]) = false) (h2 : (t.toList == [33, 61]) = false) : Calls Tryz.prog 58 #[.string t, .agg #[.int .i64 24, .int .i64 v], .agg #[.int .i64 24, .int .i64 v']] w (RetC c w) := by
  have HC : Hid (∀ W, Calls Tryz.prog 85 #[.string t, .int .i64 v, .int .i64 v'] W (RetC c W)) := Lib.hid fun W => hc0 ▸ fints_any t v v' W
  clear hc0
  go_enter Tryz.func58, Tryz.ntmps58
  go_wp2_with (go_at_call 85; (with_reducible refine (HC.out _).mono ?_); rintro e w2 ⟨rfl, hb⟩; obtain ⟨hc, hf⟩ := fbcell hb; have hz : w.heap.size + 2 < w2.heap.size := by have := hb.size; simp at this; omega)
  refine bodyPost_ret (v := cvv c) (by simp [results, Tryz.results58, go_sem, hc, hf, hz]) rfl ⟨rfl, ?_⟩
  repeat' (first | exact Below.refl _ _ | exact hb | exact fbel1 hb | exact fbel2 hb | exact fbel3 hb | apply Below.setCell | apply Below.alloc | apply Below.drew)
  all_goals (try simp)
  all_goals (try omega)

theorem fbin_b (t : ByteArray) (k v v' : Int) (w : World) (c : Cv) (hc0 : boolsL t.toList (v == 1) (v' == 1) = c) (h24 : (k == 24) = false) (e1 : (k == k) = true) (e2 : (k != k) = false) (h1 : (t.toList == [61, 61]) = false) (h2 : (t.toList == [33, 61]) = false) : Calls Tryz.prog 58 #[.string t, .agg #[.int .i64 k, .int .i64 v], .agg #[.int .i64 k, .int .i64 v']] w (RetC c w) := by
  have HC : Hid (∀ W, Calls Tryz.prog 86 #[.string t, .bool (v == 1), .bool (v' == 1)] W (RetC c W)) := Lib.hid fun W => hc0 ▸ fbools_any t _ _ W
  clear hc0
  go_enter Tryz.func58, Tryz.ntmps58
  go_wp2_with (go_at_call 86; (with_reducible refine (HC.out _).mono ?_); rintro e w2 ⟨rfl, hb⟩; obtain ⟨hc, hf⟩ := fbcell hb; have hz : w.heap.size + 2 < w2.heap.size := by have := hb.size; simp at this; omega)
  refine bodyPost_ret (v := cvv c) (by simp [results, Tryz.results58, go_sem, hc, hf, hz]) rfl ⟨rfl, ?_⟩
  repeat' (first | exact Below.refl _ _ | exact hb | exact fbel1 hb | exact fbel2 hb | exact fbel3 hb | apply Below.setCell | apply Below.alloc | apply Below.drew)
  all_goals (try simp)
  all_goals (try omega)

theorem fbinary_any (t : ByteArray) (a b : Cv) (w : World) : Calls Tryz.prog 58 #[.string t, cvv a, cvv b] w (RetC (binL t.toList a b) w) := by
  obtain ⟨k, v⟩ := a
  obtain ⟨k', v'⟩ := b
  by_cases hk : k = k'
  · subst hk
    by_cases h1 : t.toList = [61, 61]
    · obtain rfl : t = ⟨#[61, 61]⟩ := ba_of (h1.trans (by rw [ByteArray.toList_eq]))
      rw [h1]
      exact (fbin_eq k v v' w (by simp) (by simp)).mono fun e w' H => H.of (by simp [binL])
    by_cases h2 : t.toList = [33, 61]
    · obtain rfl : t = ⟨#[33, 61]⟩ := ba_of (h2.trans (by rw [ByteArray.toList_eq]))
      rw [h2]
      exact (fbin_nq k v v' w (by simp) (by simp)).mono fun e w' H => H.of (by simp [binL])
    by_cases h3 : k = 24
    · subst h3
      exact (fbin_i t v v' w _ rfl (by simpa using h1) (by simpa using h2)).mono fun e w' H => H.of (by simp [binL, h1, h2])
    · exact (fbin_b t k v v' w _ rfl (by simpa using h3) (by simp) (by simp) (by simpa using h1) (by simpa using h2)).mono fun e w' H => H.of (by simp [binL, h1, h2, h3])
  · exact (fbin_ne t k v k' v' w (by simpa using hk) (by simpa using hk)).mono fun e w' H => H.of (by simp [binL, hk])

theorem isLit_any (h : Hd) (n cap : Nat) (A : Option Addr) (w : World) : Calls Tryz.prog 56 #[nv h A n cap] w fun e w' => e = .returned (.bool (isLit h n)) ∧ Below w.heap.size w w' := by
  have e : isLit h n = (h.text.toList == [] && decide (n = 0) && ((h.kind == 24 && decide (0 ≤ h.num)) || (h.kind == 25 && (h.num == 0 || h.num == 1)))) := by
    have x : (n == 0) = decide (n = 0) := by by_cases x : n = 0 <;> simp [x]
    unfold isLit; rw [ByteArray.toList_eq, x]
  have HE := Lib.hid e
  clear e
  go_enter Tryz.func56, Tryz.ntmps56
  go_wp2
  all_goals go_ret
  all_goals refine ⟨ret_bool (by refine Eq.trans ?_ HE.out.symm; first | rfl | (simp_all; done) | (simp_all; omega)), (Below.refl _ _).alloc (Nat.le_refl _) _⟩

end Go.Proofs.YtnknphchjmnkcaaGreatDoor
