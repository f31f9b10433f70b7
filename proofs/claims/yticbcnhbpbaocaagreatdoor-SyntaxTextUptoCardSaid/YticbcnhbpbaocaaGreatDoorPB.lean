/-
  The walk of places: where one set is repeated.
-/
import Derived.Test.YticbcnhbpbaocaaGreatDoorPA

set_option linter.all false
namespace Go.Proofs.YticbcnhbpbaocaaGreatDoor
open Go.RowKit T T.Fo

set_option maxRecDepth 100000 in
set_option maxHeartbeats 40000000 in
theorem places_1 (k : Int) (hk : k = 1) (t : ByteArray) (n p tk : Int) (tn : ByteArray) (r u : Int) (A : Option Addr) (m cap : Nat) (w : World) (hm : m ≤ 1048576) :
    Calls Tryz.prog 62 #[nv ⟨k, t, n, p, tk, tn, r, u⟩ A m cap] w (Placed w (plist k m)) := by
  have HK := Lib.hid hk
  clear hk
  have HO := Lib.hid (fun A n c wz => oneOf_any A n c wz)
  go_enter Tryz.func62, Tryz.ntmps62
  go_upto_region 1 with fail
  go_cut [3, 4] (fun s3 s4 wx => s3 = .int .i64 (m : Int) ∧ s4 = .func (.func 108) #[] #[.pointer (some ⟨w.heap.size + 1 + 1, 0, none⟩)] ∧ wx = W3 w ⟨k, t, n, p, tk, tn, r, u⟩ A m cap)
  case first =>
    go_region_law ((go_simp; go_at_call 81; refine (HO.out _ _ _ _).mono ?_; rintro e w' ⟨rfl, rfl⟩))
    all_goals (go_wp2_with fail; go_meet; exact ⟨rfl, rfl, rfl⟩)
  case rest =>
    obtain ⟨rfl, rfl, rfl⟩ := hcut
    rcases HK.out with rfl
    · go_wp2_with (first
        | (go_at_call 81; refine (HO.out _ _ _ _).mono ?_; rintro e w' ⟨rfl, rfl⟩)
        | (go_at_call 85; refine (optional_any _ _ rfl).mono ?_; rintro e w' ⟨rfl, rfl⟩)
        | (go_at_call 82; refine (repeat_any (.func 83) #[] _ _ (by omega)).mono ?_; rintro e w' ⟨g, rfl, H⟩))
      go_ret
      exact placed_rep (p := .base .decl) H (((((Below.refl w.heap.size w).alloc (Nat.le_refl _) _).alloc (by simp only [World.size_alloc]; omega) _).alloc (by simp only [World.size_alloc]; omega) _).drew) rfl rfl rfl
set_option maxRecDepth 100000 in
set_option maxHeartbeats 40000000 in
theorem places_10 (k : Int) (hk : k = 10) (t : ByteArray) (n p tk : Int) (tn : ByteArray) (r u : Int) (A : Option Addr) (m cap : Nat) (w : World) (hm : m ≤ 1048576) :
    Calls Tryz.prog 62 #[nv ⟨k, t, n, p, tk, tn, r, u⟩ A m cap] w (Placed w (plist k m)) := by
  have HK := Lib.hid hk
  clear hk
  have HO := Lib.hid (fun A n c wz => oneOf_any A n c wz)
  go_enter Tryz.func62, Tryz.ntmps62
  go_upto_region 1 with fail
  go_cut [3, 4] (fun s3 s4 wx => s3 = .int .i64 (m : Int) ∧ s4 = .func (.func 108) #[] #[.pointer (some ⟨w.heap.size + 1 + 1, 0, none⟩)] ∧ wx = W3 w ⟨k, t, n, p, tk, tn, r, u⟩ A m cap)
  case first =>
    go_region_law ((go_simp; go_at_call 81; refine (HO.out _ _ _ _).mono ?_; rintro e w' ⟨rfl, rfl⟩))
    all_goals (go_wp2_with fail; go_meet; exact ⟨rfl, rfl, rfl⟩)
  case rest =>
    obtain ⟨rfl, rfl, rfl⟩ := hcut
    rcases HK.out with rfl
    · go_wp2_with (first
        | (go_at_call 81; refine (HO.out _ _ _ _).mono ?_; rintro e w' ⟨rfl, rfl⟩)
        | (go_at_call 85; refine (optional_any _ _ rfl).mono ?_; rintro e w' ⟨rfl, rfl⟩)
        | (go_at_call 82; refine (repeat_any (.func 87) #[] _ _ (by omega)).mono ?_; rintro e w' ⟨g, rfl, H⟩))
      go_ret
      exact placed_rep (p := .base .stmt) H (((((Below.refl w.heap.size w).alloc (Nat.le_refl _) _).alloc (by simp only [World.size_alloc]; omega) _).alloc (by simp only [World.size_alloc]; omega) _).drew) rfl rfl rfl
set_option maxRecDepth 100000 in
set_option maxHeartbeats 40000000 in
theorem places_11 (k : Int) (hk : k = 11 ∨ k = 17 ∨ k = 21 ∨ k = 28 ∨ k = 31 ∨ k = 33 ∨ k = 35 ∨ k = 36 ∨ k = 37) (t : ByteArray) (n p tk : Int) (tn : ByteArray) (r u : Int) (A : Option Addr) (m cap : Nat) (w : World) (hm : m ≤ 1048576) :
    Calls Tryz.prog 62 #[nv ⟨k, t, n, p, tk, tn, r, u⟩ A m cap] w (Placed w (plist k m)) := by
  have HK := Lib.hid hk
  clear hk
  have HO := Lib.hid (fun A n c wz => oneOf_any A n c wz)
  go_enter Tryz.func62, Tryz.ntmps62
  go_upto_region 1 with fail
  go_cut [3, 4] (fun s3 s4 wx => s3 = .int .i64 (m : Int) ∧ s4 = .func (.func 108) #[] #[.pointer (some ⟨w.heap.size + 1 + 1, 0, none⟩)] ∧ wx = W3 w ⟨k, t, n, p, tk, tn, r, u⟩ A m cap)
  case first =>
    go_region_law ((go_simp; go_at_call 81; refine (HO.out _ _ _ _).mono ?_; rintro e w' ⟨rfl, rfl⟩))
    all_goals (go_wp2_with fail; go_meet; exact ⟨rfl, rfl, rfl⟩)
  case rest =>
    obtain ⟨rfl, rfl, rfl⟩ := hcut
    rcases HK.out with rfl | rfl | rfl | rfl | rfl | rfl | rfl | rfl | rfl
    · go_wp2_with (first
        | (go_at_call 81; refine (HO.out _ _ _ _).mono ?_; rintro e w' ⟨rfl, rfl⟩)
        | (go_at_call 85; refine (optional_any _ _ rfl).mono ?_; rintro e w' ⟨rfl, rfl⟩)
        | (go_at_call 82; refine (repeat_one (.func 86) #[] _).mono ?_; rintro e w' ⟨g, rfl, H⟩))
      go_ret
      exact placed_rep (p := .base .expr) H (((((Below.refl w.heap.size w).alloc (Nat.le_refl _) _).alloc (by simp only [World.size_alloc]; omega) _).alloc (by simp only [World.size_alloc]; omega) _).drew) rfl rfl rfl
    · go_wp2_with (first
        | (go_at_call 81; refine (HO.out _ _ _ _).mono ?_; rintro e w' ⟨rfl, rfl⟩)
        | (go_at_call 85; refine (optional_any _ _ rfl).mono ?_; rintro e w' ⟨rfl, rfl⟩)
        | (go_at_call 82; refine (repeat_one (.func 86) #[] _).mono ?_; rintro e w' ⟨g, rfl, H⟩))
      go_ret
      exact placed_rep (p := .base .expr) H (((((Below.refl w.heap.size w).alloc (Nat.le_refl _) _).alloc (by simp only [World.size_alloc]; omega) _).alloc (by simp only [World.size_alloc]; omega) _).drew) rfl rfl rfl
    · go_wp2_with (first
        | (go_at_call 81; refine (HO.out _ _ _ _).mono ?_; rintro e w' ⟨rfl, rfl⟩)
        | (go_at_call 85; refine (optional_any _ _ rfl).mono ?_; rintro e w' ⟨rfl, rfl⟩)
        | (go_at_call 82; refine (repeat_one (.func 86) #[] _).mono ?_; rintro e w' ⟨g, rfl, H⟩))
      go_ret
      exact placed_rep (p := .base .expr) H (((((Below.refl w.heap.size w).alloc (Nat.le_refl _) _).alloc (by simp only [World.size_alloc]; omega) _).alloc (by simp only [World.size_alloc]; omega) _).drew) rfl rfl rfl
    · go_wp2_with (first
        | (go_at_call 81; refine (HO.out _ _ _ _).mono ?_; rintro e w' ⟨rfl, rfl⟩)
        | (go_at_call 85; refine (optional_any _ _ rfl).mono ?_; rintro e w' ⟨rfl, rfl⟩)
        | (go_at_call 82; refine (repeat_one (.func 86) #[] _).mono ?_; rintro e w' ⟨g, rfl, H⟩))
      go_ret
      exact placed_rep (p := .base .expr) H (((((Below.refl w.heap.size w).alloc (Nat.le_refl _) _).alloc (by simp only [World.size_alloc]; omega) _).alloc (by simp only [World.size_alloc]; omega) _).drew) rfl rfl rfl
    · go_wp2_with (first
        | (go_at_call 81; refine (HO.out _ _ _ _).mono ?_; rintro e w' ⟨rfl, rfl⟩)
        | (go_at_call 85; refine (optional_any _ _ rfl).mono ?_; rintro e w' ⟨rfl, rfl⟩)
        | (go_at_call 82; refine (repeat_one (.func 86) #[] _).mono ?_; rintro e w' ⟨g, rfl, H⟩))
      go_ret
      exact placed_rep (p := .base .expr) H (((((Below.refl w.heap.size w).alloc (Nat.le_refl _) _).alloc (by simp only [World.size_alloc]; omega) _).alloc (by simp only [World.size_alloc]; omega) _).drew) rfl rfl rfl
    · go_wp2_with (first
        | (go_at_call 81; refine (HO.out _ _ _ _).mono ?_; rintro e w' ⟨rfl, rfl⟩)
        | (go_at_call 85; refine (optional_any _ _ rfl).mono ?_; rintro e w' ⟨rfl, rfl⟩)
        | (go_at_call 82; refine (repeat_one (.func 86) #[] _).mono ?_; rintro e w' ⟨g, rfl, H⟩))
      go_ret
      exact placed_rep (p := .base .expr) H (((((Below.refl w.heap.size w).alloc (Nat.le_refl _) _).alloc (by simp only [World.size_alloc]; omega) _).alloc (by simp only [World.size_alloc]; omega) _).drew) rfl rfl rfl
    · go_wp2_with (first
        | (go_at_call 81; refine (HO.out _ _ _ _).mono ?_; rintro e w' ⟨rfl, rfl⟩)
        | (go_at_call 85; refine (optional_any _ _ rfl).mono ?_; rintro e w' ⟨rfl, rfl⟩)
        | (go_at_call 82; refine (repeat_one (.func 86) #[] _).mono ?_; rintro e w' ⟨g, rfl, H⟩))
      go_ret
      exact placed_rep (p := .base .expr) H (((((Below.refl w.heap.size w).alloc (Nat.le_refl _) _).alloc (by simp only [World.size_alloc]; omega) _).alloc (by simp only [World.size_alloc]; omega) _).drew) rfl rfl rfl
    · go_wp2_with (first
        | (go_at_call 81; refine (HO.out _ _ _ _).mono ?_; rintro e w' ⟨rfl, rfl⟩)
        | (go_at_call 85; refine (optional_any _ _ rfl).mono ?_; rintro e w' ⟨rfl, rfl⟩)
        | (go_at_call 82; refine (repeat_one (.func 86) #[] _).mono ?_; rintro e w' ⟨g, rfl, H⟩))
      go_ret
      exact placed_rep (p := .base .expr) H (((((Below.refl w.heap.size w).alloc (Nat.le_refl _) _).alloc (by simp only [World.size_alloc]; omega) _).alloc (by simp only [World.size_alloc]; omega) _).drew) rfl rfl rfl
    · go_wp2_with (first
        | (go_at_call 81; refine (HO.out _ _ _ _).mono ?_; rintro e w' ⟨rfl, rfl⟩)
        | (go_at_call 85; refine (optional_any _ _ rfl).mono ?_; rintro e w' ⟨rfl, rfl⟩)
        | (go_at_call 82; refine (repeat_one (.func 86) #[] _).mono ?_; rintro e w' ⟨g, rfl, H⟩))
      go_ret
      exact placed_rep (p := .base .expr) H (((((Below.refl w.heap.size w).alloc (Nat.le_refl _) _).alloc (by simp only [World.size_alloc]; omega) _).alloc (by simp only [World.size_alloc]; omega) _).drew) rfl rfl rfl
set_option maxRecDepth 100000 in
set_option maxHeartbeats 40000000 in
theorem places_12 (k : Int) (hk : k = 12 ∨ k = 16 ∨ k = 29 ∨ k = 32) (t : ByteArray) (n p tk : Int) (tn : ByteArray) (r u : Int) (A : Option Addr) (m cap : Nat) (w : World) (hm : m ≤ 1048576) :
    Calls Tryz.prog 62 #[nv ⟨k, t, n, p, tk, tn, r, u⟩ A m cap] w (Placed w (plist k m)) := by
  have HK := Lib.hid hk
  clear hk
  have HO := Lib.hid (fun A n c wz => oneOf_any A n c wz)
  go_enter Tryz.func62, Tryz.ntmps62
  go_upto_region 1 with fail
  go_cut [3, 4] (fun s3 s4 wx => s3 = .int .i64 (m : Int) ∧ s4 = .func (.func 108) #[] #[.pointer (some ⟨w.heap.size + 1 + 1, 0, none⟩)] ∧ wx = W3 w ⟨k, t, n, p, tk, tn, r, u⟩ A m cap)
  case first =>
    go_region_law ((go_simp; go_at_call 81; refine (HO.out _ _ _ _).mono ?_; rintro e w' ⟨rfl, rfl⟩))
    all_goals (go_wp2_with fail; go_meet; exact ⟨rfl, rfl, rfl⟩)
  case rest =>
    obtain ⟨rfl, rfl, rfl⟩ := hcut
    rcases HK.out with rfl | rfl | rfl | rfl
    · go_wp2_with (first
        | (go_at_call 81; refine (HO.out _ _ _ _).mono ?_; rintro e w' ⟨rfl, rfl⟩)
        | (go_at_call 85; refine (optional_any _ _ rfl).mono ?_; rintro e w' ⟨rfl, rfl⟩)
        | (go_at_call 82; refine (repeat_two (.func 86) #[] _).mono ?_; rintro e w' ⟨g, rfl, H⟩))
      go_ret
      exact placed_rep (p := .base .expr) H (((((Below.refl w.heap.size w).alloc (Nat.le_refl _) _).alloc (by simp only [World.size_alloc]; omega) _).alloc (by simp only [World.size_alloc]; omega) _).drew) rfl rfl rfl
    · go_wp2_with (first
        | (go_at_call 81; refine (HO.out _ _ _ _).mono ?_; rintro e w' ⟨rfl, rfl⟩)
        | (go_at_call 85; refine (optional_any _ _ rfl).mono ?_; rintro e w' ⟨rfl, rfl⟩)
        | (go_at_call 82; refine (repeat_two (.func 86) #[] _).mono ?_; rintro e w' ⟨g, rfl, H⟩))
      go_ret
      exact placed_rep (p := .base .expr) H (((((Below.refl w.heap.size w).alloc (Nat.le_refl _) _).alloc (by simp only [World.size_alloc]; omega) _).alloc (by simp only [World.size_alloc]; omega) _).drew) rfl rfl rfl
    · go_wp2_with (first
        | (go_at_call 81; refine (HO.out _ _ _ _).mono ?_; rintro e w' ⟨rfl, rfl⟩)
        | (go_at_call 85; refine (optional_any _ _ rfl).mono ?_; rintro e w' ⟨rfl, rfl⟩)
        | (go_at_call 82; refine (repeat_two (.func 86) #[] _).mono ?_; rintro e w' ⟨g, rfl, H⟩))
      go_ret
      exact placed_rep (p := .base .expr) H (((((Below.refl w.heap.size w).alloc (Nat.le_refl _) _).alloc (by simp only [World.size_alloc]; omega) _).alloc (by simp only [World.size_alloc]; omega) _).drew) rfl rfl rfl
    · go_wp2_with (first
        | (go_at_call 81; refine (HO.out _ _ _ _).mono ?_; rintro e w' ⟨rfl, rfl⟩)
        | (go_at_call 85; refine (optional_any _ _ rfl).mono ?_; rintro e w' ⟨rfl, rfl⟩)
        | (go_at_call 82; refine (repeat_two (.func 86) #[] _).mono ?_; rintro e w' ⟨g, rfl, H⟩))
      go_ret
      exact placed_rep (p := .base .expr) H (((((Below.refl w.heap.size w).alloc (Nat.le_refl _) _).alloc (by simp only [World.size_alloc]; omega) _).alloc (by simp only [World.size_alloc]; omega) _).drew) rfl rfl rfl
end Go.Proofs.YticbcnhbpbaocaaGreatDoor
