/-
  The walk of places: statements.
-/
import Derived.Test.YticbcnhbpbaocaaGreatDoorPA

set_option linter.all false
namespace Go.Proofs.YticbcnhbpbaocaaGreatDoor
open Go.RowKit T T.Fo

set_option maxRecDepth 100000 in
set_option maxHeartbeats 40000000 in
theorem places_14 (k : Int) (hk : k = 14 ∨ k = 15) (t : ByteArray) (n p tk : Int) (tn : ByteArray) (r u : Int) (A : Option Addr) (m cap : Nat) (w : World) (hm : m ≤ 1048576) :
    Calls Tryz.prog 62 #[nv ⟨k, t, n, p, tk, tn, r, u⟩ A m cap] w (Placed w (plist k m)) := by
  have HK := Lib.hid hk
  clear hk
  have HO := Lib.hid (fun A n c wz => oneOf_any A n c wz)
  go_enter Tryz.func62, Tryz.ntmps62
  go_upto_region 1 with fail
  go_cut [3, 4] (fun s3 s4 wx => s3 = .int .i64 (m : Int) ∧ s4 = .func (.func 108) #[] #[.pointer (some ⟨w.heap.size + 1 + 1, 0, none⟩)] ∧ wx = W3 w ⟨k, t, n, p, tk, tn, r, u⟩ A m cap)
  case first =>
    go_region_law ((go_simp; go_at_call 81; refine (HO.out _ _ _ _).mono ?_; rintro e w' ⟨rfl, rfl⟩))
    all_goals (go_wp2_with fail; go_meet; exact ⟨rfl, rfl, rfl⟩)
  case rest =>
    obtain ⟨rfl, rfl, rfl⟩ := hcut
    rcases HK.out with rfl | rfl
    · go_wp2_with (first
        | (go_at_call 81; refine (HO.out _ _ _ _).mono ?_; rintro e w' ⟨rfl, rfl⟩)
        | (go_at_call 85; refine (optional_any _ _ rfl).mono ?_; rintro e w' ⟨rfl, rfl⟩)
        | (go_at_call 82; refine (repeat_one (.func 83) #[] _).mono ?_; rintro e w' ⟨g, rfl, H⟩))
      go_ret
      exact ⟨some ⟨w.heap.size + 1 + 1 + 1 + 1 + 1, 0, none⟩, 1, rfl, plrow1 (by simp only [heapA, heapD, Array.getElem?_push, Array.size_push]; repeat (first | rw [if_pos trivial] | rw [if_neg (by omega)]); try rfl) (by show _ < _; simp [heapD]) rfl (is_one (c := 1) (g := w.heap.size + 1 + 1 + 1) (b := w.heap.size + 1 + 1 + 1 + 1) (by simp only [heapA, heapD, Array.getElem?_push, Array.size_push]; repeat (first | rw [if_pos trivial] | rw [if_neg (by omega)]); try rfl) (by simp only [heapA, heapD, Array.getElem?_push, Array.size_push]; repeat (first | rw [if_pos trivial] | rw [if_neg (by omega)]); try rfl) (by show _ < _; simp [heapD]) (by show _ < _; simp [heapD]) (by simp)), (((((((Below.refl w.heap.size w).alloc (Nat.le_refl _) _).alloc (by simp only [World.size_alloc]; omega) _).alloc (by simp only [World.size_alloc]; omega) _).alloc (by simp only [World.size_alloc]; omega) _).alloc (by simp only [World.size_alloc]; omega) _).alloc (by simp only [World.size_alloc]; omega) _).drew⟩
    · go_wp2_with (first
        | (go_at_call 81; refine (HO.out _ _ _ _).mono ?_; rintro e w' ⟨rfl, rfl⟩)
        | (go_at_call 85; refine (optional_any _ _ rfl).mono ?_; rintro e w' ⟨rfl, rfl⟩)
        | (go_at_call 82; refine (repeat_one (.func 83) #[] _).mono ?_; rintro e w' ⟨g, rfl, H⟩))
      go_ret
      exact ⟨some ⟨w.heap.size + 1 + 1 + 1 + 1 + 1, 0, none⟩, 1, rfl, plrow1 (by simp only [heapA, heapD, Array.getElem?_push, Array.size_push]; repeat (first | rw [if_pos trivial] | rw [if_neg (by omega)]); try rfl) (by show _ < _; simp [heapD]) rfl (is_one (c := 1) (g := w.heap.size + 1 + 1 + 1) (b := w.heap.size + 1 + 1 + 1 + 1) (by simp only [heapA, heapD, Array.getElem?_push, Array.size_push]; repeat (first | rw [if_pos trivial] | rw [if_neg (by omega)]); try rfl) (by simp only [heapA, heapD, Array.getElem?_push, Array.size_push]; repeat (first | rw [if_pos trivial] | rw [if_neg (by omega)]); try rfl) (by show _ < _; simp [heapD]) (by show _ < _; simp [heapD]) (by simp)), (((((((Below.refl w.heap.size w).alloc (Nat.le_refl _) _).alloc (by simp only [World.size_alloc]; omega) _).alloc (by simp only [World.size_alloc]; omega) _).alloc (by simp only [World.size_alloc]; omega) _).alloc (by simp only [World.size_alloc]; omega) _).alloc (by simp only [World.size_alloc]; omega) _).drew⟩
set_option maxRecDepth 100000 in
set_option maxHeartbeats 40000000 in
theorem places_18 (k : Int) (hk : k = 18) (t : ByteArray) (n p tk : Int) (tn : ByteArray) (r u : Int) (A : Option Addr) (m cap : Nat) (w : World) (hm : m ≤ 1048576) :
    Calls Tryz.prog 62 #[nv ⟨k, t, n, p, tk, tn, r, u⟩ A m cap] w (Placed w (plist k m)) := by
  have HK := Lib.hid hk
  clear hk
  have HO := Lib.hid (fun A n c wz => oneOf_any A n c wz)
  go_enter Tryz.func62, Tryz.ntmps62
  go_upto_region 1 with fail
  go_cut [3, 4] (fun s3 s4 wx => s3 = .int .i64 (m : Int) ∧ s4 = .func (.func 108) #[] #[.pointer (some ⟨w.heap.size + 1 + 1, 0, none⟩)] ∧ wx = W3 w ⟨k, t, n, p, tk, tn, r, u⟩ A m cap)
  case first =>
    go_region_law ((go_simp; go_at_call 81; refine (HO.out _ _ _ _).mono ?_; rintro e w' ⟨rfl, rfl⟩))
    all_goals (go_wp2_with fail; go_meet; exact ⟨rfl, rfl, rfl⟩)
  case rest =>
    obtain ⟨rfl, rfl, rfl⟩ := hcut
    rcases HK.out with rfl
    · go_wp2_with (first
        | (go_at_call 81; refine (HO.out _ _ _ _).mono ?_; rintro e w' ⟨rfl, rfl⟩)
        | (go_at_call 85; refine (optional_any _ _ rfl).mono ?_; rintro e w' ⟨rfl, rfl⟩)
        | (go_at_call 82; refine (repeat_one (.func 83) #[] _).mono ?_; rintro e w' ⟨g, rfl, H⟩))
      go_ret
      exact ⟨some ⟨w.heap.size + 1 + 1 + 1 + 1 + 1 + 1, 0, none⟩, 3, rfl, plrow3 (by simp only [heapA, heapD, Array.getElem?_push, Array.size_push]; repeat (first | rw [if_pos trivial] | rw [if_neg (by omega)]); try rfl) (by show _ < _; simp [heapD]) rfl rfl rfl (is_one (c := 1) (g := w.heap.size + 1) (b := w.heap.size + 1 + 1) (by simp only [heapA, heapD, Array.getElem?_push, Array.size_push]; repeat (first | rw [if_pos trivial] | rw [if_neg (by omega)]); try rfl) (by simp only [heapA, heapD, Array.getElem?_push, Array.size_push]; repeat (first | rw [if_pos trivial] | rw [if_neg (by omega)]); try rfl) (by show _ < _; simp [heapD]) (by show _ < _; simp [heapD]) (by simp)) rfl (is_opt (b := w.heap.size + 1 + 1 + 1 + 1 + 1) (by simp only [heapA, heapD, Array.getElem?_push, Array.size_push]; repeat (first | rw [if_pos trivial] | rw [if_neg (by omega)]); try rfl) (by show _ < _; simp [heapD]) (is_one (c := 2) (g := w.heap.size + 1 + 1 + 1) (b := w.heap.size + 1 + 1 + 1 + 1) (by simp only [heapA, heapD, Array.getElem?_push, Array.size_push]; repeat (first | rw [if_pos trivial] | rw [if_neg (by omega)]); try rfl) (by simp only [heapA, heapD, Array.getElem?_push, Array.size_push]; repeat (first | rw [if_pos trivial] | rw [if_neg (by omega)]); try rfl) (by show _ < _; simp [heapD]) (by show _ < _; simp [heapD]) (by simp))), ((((((((Below.refl w.heap.size w).alloc (Nat.le_refl _) _).alloc (by simp only [World.size_alloc]; omega) _).alloc (by simp only [World.size_alloc]; omega) _).alloc (by simp only [World.size_alloc]; omega) _).alloc (by simp only [World.size_alloc]; omega) _).alloc (by simp only [World.size_alloc]; omega) _).alloc (by simp only [World.size_alloc]; omega) _).drew⟩
set_option maxRecDepth 100000 in
set_option maxHeartbeats 40000000 in
theorem places_19 (k : Int) (hk : k = 19) (t : ByteArray) (n p tk : Int) (tn : ByteArray) (r u : Int) (A : Option Addr) (m cap : Nat) (w : World) (hm : m ≤ 1048576) :
    Calls Tryz.prog 62 #[nv ⟨k, t, n, p, tk, tn, r, u⟩ A m cap] w (Placed w (plist k m)) := by
  have HK := Lib.hid hk
  clear hk
  have HO := Lib.hid (fun A n c wz => oneOf_any A n c wz)
  go_enter Tryz.func62, Tryz.ntmps62
  go_upto_region 1 with fail
  go_cut [3, 4] (fun s3 s4 wx => s3 = .int .i64 (m : Int) ∧ s4 = .func (.func 108) #[] #[.pointer (some ⟨w.heap.size + 1 + 1, 0, none⟩)] ∧ wx = W3 w ⟨k, t, n, p, tk, tn, r, u⟩ A m cap)
  case first =>
    go_region_law ((go_simp; go_at_call 81; refine (HO.out _ _ _ _).mono ?_; rintro e w' ⟨rfl, rfl⟩))
    all_goals (go_wp2_with fail; go_meet; exact ⟨rfl, rfl, rfl⟩)
  case rest =>
    obtain ⟨rfl, rfl, rfl⟩ := hcut
    rcases HK.out with rfl
    · go_wp2_with (first
        | (go_at_call 81; refine (HO.out _ _ _ _).mono ?_; rintro e w' ⟨rfl, rfl⟩)
        | (go_at_call 85; refine (optional_any _ _ rfl).mono ?_; rintro e w' ⟨rfl, rfl⟩)
        | (go_at_call 82; refine (repeat_one (.func 83) #[] _).mono ?_; rintro e w' ⟨g, rfl, H⟩))
      go_ret
      exact ⟨some ⟨w.heap.size + 1 + 1 + 1 + 1, 0, none⟩, 2, rfl, plrow2 (by simp only [heapA, heapD, Array.getElem?_push, Array.size_push]; repeat (first | rw [if_pos trivial] | rw [if_neg (by omega)]); try rfl) (by show _ < _; simp [heapD]) rfl (is_opt (b := w.heap.size + 1 + 1 + 1) (by simp only [heapA, heapD, Array.getElem?_push, Array.size_push]; repeat (first | rw [if_pos trivial] | rw [if_neg (by omega)]); try rfl) (by show _ < _; simp [heapD]) rfl) rfl (is_one (c := 1) (g := w.heap.size + 1) (b := w.heap.size + 1 + 1) (by simp only [heapA, heapD, Array.getElem?_push, Array.size_push]; repeat (first | rw [if_pos trivial] | rw [if_neg (by omega)]); try rfl) (by simp only [heapA, heapD, Array.getElem?_push, Array.size_push]; repeat (first | rw [if_pos trivial] | rw [if_neg (by omega)]); try rfl) (by show _ < _; simp [heapD]) (by show _ < _; simp [heapD]) (by simp)), ((((((Below.refl w.heap.size w).alloc (Nat.le_refl _) _).alloc (by simp only [World.size_alloc]; omega) _).alloc (by simp only [World.size_alloc]; omega) _).alloc (by simp only [World.size_alloc]; omega) _).alloc (by simp only [World.size_alloc]; omega) _).drew⟩
set_option maxRecDepth 100000 in
set_option maxHeartbeats 40000000 in
theorem places_23 (k : Int) (hk : k = 23) (t : ByteArray) (n p tk : Int) (tn : ByteArray) (r u : Int) (A : Option Addr) (m cap : Nat) (w : World) (hm : m ≤ 1048576) :
    Calls Tryz.prog 62 #[nv ⟨k, t, n, p, tk, tn, r, u⟩ A m cap] w (Placed w (plist k m)) := by
  have HK := Lib.hid hk
  clear hk
  have HO := Lib.hid (fun A n c wz => oneOf_any A n c wz)
  go_enter Tryz.func62, Tryz.ntmps62
  go_upto_region 1 with fail
  go_cut [3, 4] (fun s3 s4 wx => s3 = .int .i64 (m : Int) ∧ s4 = .func (.func 108) #[] #[.pointer (some ⟨w.heap.size + 1 + 1, 0, none⟩)] ∧ wx = W3 w ⟨k, t, n, p, tk, tn, r, u⟩ A m cap)
  case first =>
    go_region_law ((go_simp; go_at_call 81; refine (HO.out _ _ _ _).mono ?_; rintro e w' ⟨rfl, rfl⟩))
    all_goals (go_wp2_with fail; go_meet; exact ⟨rfl, rfl, rfl⟩)
  case rest =>
    obtain ⟨rfl, rfl, rfl⟩ := hcut
    rcases HK.out with rfl
    · go_wp2_with (first
        | (go_at_call 81; refine (HO.out _ _ _ _).mono ?_; rintro e w' ⟨rfl, rfl⟩)
        | (go_at_call 85; refine (optional_any _ _ rfl).mono ?_; rintro e w' ⟨rfl, rfl⟩)
        | (go_at_call 82; refine (repeat_one (.func 83) #[] _).mono ?_; rintro e w' ⟨g, rfl, H⟩))
      go_ret
      exact ⟨some ⟨w.heap.size + 1 + 1 + 1 + 1, 0, none⟩, 2, rfl, plrow2 (by simp only [heapA, heapD, Array.getElem?_push, Array.size_push]; repeat (first | rw [if_pos trivial] | rw [if_neg (by omega)]); try rfl) (by show _ < _; simp [heapD]) rfl (is_opt (b := w.heap.size + 1 + 1 + 1) (by simp only [heapA, heapD, Array.getElem?_push, Array.size_push]; repeat (first | rw [if_pos trivial] | rw [if_neg (by omega)]); try rfl) (by show _ < _; simp [heapD]) rfl) rfl (is_one (c := 1) (g := w.heap.size + 1) (b := w.heap.size + 1 + 1) (by simp only [heapA, heapD, Array.getElem?_push, Array.size_push]; repeat (first | rw [if_pos trivial] | rw [if_neg (by omega)]); try rfl) (by simp only [heapA, heapD, Array.getElem?_push, Array.size_push]; repeat (first | rw [if_pos trivial] | rw [if_neg (by omega)]); try rfl) (by show _ < _; simp [heapD]) (by show _ < _; simp [heapD]) (by simp)), ((((((Below.refl w.heap.size w).alloc (Nat.le_refl _) _).alloc (by simp only [World.size_alloc]; omega) _).alloc (by simp only [World.size_alloc]; omega) _).alloc (by simp only [World.size_alloc]; omega) _).alloc (by simp only [World.size_alloc]; omega) _).drew⟩
set_option maxRecDepth 100000 in
set_option maxHeartbeats 40000000 in
theorem places_38 (k : Int) (hk : k = 38) (t : ByteArray) (n p tk : Int) (tn : ByteArray) (r u : Int) (A : Option Addr) (m cap : Nat) (w : World) (hm : m ≤ 1048576) :
    Calls Tryz.prog 62 #[nv ⟨k, t, n, p, tk, tn, r, u⟩ A m cap] w (Placed w (plist k m)) := by
  have HK := Lib.hid hk
  clear hk
  have HO := Lib.hid (fun A n c wz => oneOf_any A n c wz)
  go_enter Tryz.func62, Tryz.ntmps62
  go_upto_region 1 with fail
  go_cut [3, 4] (fun s3 s4 wx => s3 = .int .i64 (m : Int) ∧ s4 = .func (.func 108) #[] #[.pointer (some ⟨w.heap.size + 1 + 1, 0, none⟩)] ∧ wx = W3 w ⟨k, t, n, p, tk, tn, r, u⟩ A m cap)
  case first =>
    go_region_law ((go_simp; go_at_call 81; refine (HO.out _ _ _ _).mono ?_; rintro e w' ⟨rfl, rfl⟩))
    all_goals (go_wp2_with fail; go_meet; exact ⟨rfl, rfl, rfl⟩)
  case rest =>
    obtain ⟨rfl, rfl, rfl⟩ := hcut
    rcases HK.out with rfl
    · go_wp2_with (first
        | (go_at_call 81; refine (HO.out _ _ _ _).mono ?_; rintro e w' ⟨rfl, rfl⟩)
        | (go_at_call 85; refine (optional_any _ _ rfl).mono ?_; rintro e w' ⟨rfl, rfl⟩)
        | (go_at_call 82; refine (repeat_one (.func 83) #[] _).mono ?_; rintro e w' ⟨g, rfl, H⟩))
      go_ret
      exact ⟨some ⟨w.heap.size + 1 + 1 + 1, 0, none⟩, 1, rfl, plrow1 (by simp only [heapA, heapD, Array.getElem?_push, Array.size_push]; repeat (first | rw [if_pos trivial] | rw [if_neg (by omega)]); try rfl) (by show _ < _; simp [heapD]) rfl (is_one (c := 1) (g := w.heap.size + 1) (b := w.heap.size + 1 + 1) (by simp only [heapA, heapD, Array.getElem?_push, Array.size_push]; repeat (first | rw [if_pos trivial] | rw [if_neg (by omega)]); try rfl) (by simp only [heapA, heapD, Array.getElem?_push, Array.size_push]; repeat (first | rw [if_pos trivial] | rw [if_neg (by omega)]); try rfl) (by show _ < _; simp [heapD]) (by show _ < _; simp [heapD]) (by simp)), (((((Below.refl w.heap.size w).alloc (Nat.le_refl _) _).alloc (by simp only [World.size_alloc]; omega) _).alloc (by simp only [World.size_alloc]; omega) _).alloc (by simp only [World.size_alloc]; omega) _).drew⟩
end Go.Proofs.YticbcnhbpbaocaaGreatDoor
