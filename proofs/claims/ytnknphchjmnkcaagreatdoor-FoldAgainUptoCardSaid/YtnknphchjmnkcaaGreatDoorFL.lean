/-
  The walks of the specification's plain and folded (package fold).
-/
import Derived.Test.YtnknphchjmnkcaaGreatDoorFK
import Derived.Test.YtnknphchjmnkcaaGreatDoorFI
import Derived.Test.YtnknphchjmnkcaaGreatDoorSB
import Derived.Test.YtnknphchjmnkcaaGreatDoorRI
set_option linter.all false
namespace Go.Proofs.YtnknphchjmnkcaaGreatDoor
open Go.RowKit T T.Fo

set_option maxRecDepth 100000 in
set_option maxHeartbeats 2000000 in
theorem rleaf_k (k : Int) (t : ByteArray) (n p tk : Int) (tn : ByteArray) (r u : Int) (w : World) (hk24 : (k == 24) = false) (hk25 : (k == 25) = false) :
    Calls Tryz.prog 69 #[nv ⟨k, t, n, p, tk, tn, r, u⟩ none 0 0] w fun e w' => e = .returned (nv ⟨k, t, 0, 0, 0, ⟨#[]⟩, 0, 0⟩ none 0 0) ∧ Below w.heap.size w w' := by
  have HC := Lib.hid (fun wz => rcounts_al ⟨k, t, n, p, tk, tn, r, u⟩ none 0 0 wz false (.inl ⟨hk24, hk25⟩))
  clear hk24 hk25
  go_enter Tryz.func69, Tryz.ntmps69
  go_wp2_with (go_at_call 55; refine (HC.out _).mono ?_; rintro e w' ⟨rfl, rfl⟩)
  have HB0 : Hid (∀ o1 o2 o3 o4, (o1 = .cells (nc ⟨k, t, n, p, tk, tn, r, u⟩ none 0 0) 26) → (o2 = .cells nc0 26) → (o3 = .cells (nc ⟨k, t, 0, 0, 0, ⟨#[]⟩, 0, 0⟩ none 0 0) 26) → Bx w ((((w.alloc o1).alloc o2).alloc o3).alloc o4) (w.heap.size + 1 + 1) (w.heap.size + 1) ⟨k, t, 0, 0, 0, ⟨#[]⟩, 0, 0⟩ none 0 0 ∧ ((((w.alloc o1).alloc o2).alloc o3).alloc o4).heap[w.heap.size]? = some (.cells (nc ⟨k, t, n, p, tk, tn, r, u⟩ none 0 0) 26 (0, 0))) := by
    rintro o1 o2 o3 o4 rfl rfl rfl
    have z1 : (w.alloc (.cells (nc ⟨k, t, n, p, tk, tn, r, u⟩ none 0 0) 26)).heap.size = w.heap.size + 1 := by simp
    have z2 : ((w.alloc (.cells (nc ⟨k, t, n, p, tk, tn, r, u⟩ none 0 0) 26)).alloc (.cells nc0 26)).heap.size = w.heap.size + 1 + 1 := by simp
    refine ⟨⟨?_, ?_, by simp, by simp, (((Below.refl _ _).alloc (Nat.le_refl _) _).alloc (by simp) _ |>.alloc (by simp only [World.size_alloc]; omega) _).alloc (by simp only [World.size_alloc]; omega) _⟩, ?_⟩
    · rw [Below.heap_alloc _ _ _ (by simp), ← z2]; exact heap_alloc_new _ _
    · rw [Below.heap_alloc _ _ _ (by simp), Below.heap_alloc _ _ _ (by simp), ← z1]; exact heap_alloc_new _ _
    · rw [Below.heap_alloc _ _ _ (by simp; omega), Below.heap_alloc _ _ _ (by simp; omega), Below.heap_alloc _ _ _ (by simp)]; exact heap_alloc_new _ _
  go_loopw [4] (fun ix wr => ix = .int .i64 ((0 : Nat) : Int) ∧ Bx w wr (w.heap.size + 1 + 1) (w.heap.size + 1) ⟨k, t, 0, 0, 0, ⟨#[]⟩, 0, 0⟩ none 0 0 ∧ wr.heap[w.heap.size]? = some (.cells (nc ⟨k, t, n, p, tk, tn, r, u⟩ none 0 0) 26 (0, 0))) (fun ix _ => 0)
  case atStart => exact ⟨rfl, (HB0.out _ _ _ _ rfl rfl rfl).1, (HB0.out _ _ _ _ rfl rfl rfl).2⟩
  case round =>
    obtain ⟨rfl, hbx, hpb⟩ := hrel
    have HPB := Lib.hid hpb
    have pb4 : wr.cell? ⟨w.heap.size, 4, none⟩ = some (.slice none 0 0) := by simp [World.cell?, hpb]
    clear hpb
    have hz := hbx.z
    have HBX := Lib.hid hbx
    have HE : Hid True := trivial
    obtain ⟨a0, a1, a2, a3, a4, a5, a6, a7, a8⟩ := hbx.all
    simp only [Nat.zero_add] at a1 a2 a3 a4 a5 a6 a7 a8
    obtain ⟨hres, hfz⟩ := hbx.res
    obtain ⟨v0, d0⟩ := hres 0 (by omega)
    obtain ⟨v1, d1⟩ := hres 1 (by omega)
    obtain ⟨v2, d2⟩ := hres 2 (by omega)
    obtain ⟨v3, d3⟩ := hres 3 (by omega)
    obtain ⟨v4, d4⟩ := hres 4 (by omega)
    obtain ⟨v5, d5⟩ := hres 5 (by omega)
    obtain ⟨v6, d6⟩ := hres 6 (by omega)
    obtain ⟨v7, d7⟩ := hres 7 (by omega)
    obtain ⟨v8, d8⟩ := hres 8 (by omega)
    clear hres hbx
    have hfz0 := hfz
    clear hfz
    have HF := Lib.hid hfz0
    have f0 := HF.out 0
    have f1 := HF.out 1
    have f2 := HF.out 2
    have f3 := HF.out 3
    have f4 := HF.out 4
    have f5 := HF.out 5
    have f6 := HF.out 6
    have f7 := HF.out 7
    have f8 := HF.out 8
    clear hfz0
    go_wp2
    have h9 := nine w wr (w.heap.size + 1) (.int .i64 (⟨k, t, 0, 0, 0, ⟨#[]⟩, 0, 0⟩ : Hd).kind) (.string (⟨k, t, 0, 0, 0, ⟨#[]⟩, 0, 0⟩ : Hd).text) (.int .i64 (⟨k, t, 0, 0, 0, ⟨#[]⟩, 0, 0⟩ : Hd).num) (.int .i64 (⟨k, t, 0, 0, 0, ⟨#[]⟩, 0, 0⟩ : Hd).pos) (.slice none 0 0) (.int .i64 (⟨k, t, 0, 0, 0, ⟨#[]⟩, 0, 0⟩ : Hd).tk) (.string (⟨k, t, 0, 0, 0, ⟨#[]⟩, 0, 0⟩ : Hd).tn) (.int .i64 (⟨k, t, 0, 0, 0, ⟨#[]⟩, 0, 0⟩ : Hd).ref) (.int .i64 (⟨k, t, 0, 0, 0, ⟨#[]⟩, 0, 0⟩ : Hd).up) rfl
    have hbk := blk9 (h' := litH 0 0 0) (A' := none) (n' := 0) (c' := 0) (h := ⟨k, t, 0, 0, 0, ⟨#[]⟩, 0, 0⟩) (A := none) (n := 0) (c := 0) HBX.out.hr
    exact ret_cell Tryz.results69 (r := w.heap.size + 1) (h := ⟨k, t, 0, 0, 0, ⟨#[]⟩, 0, 0⟩) (A := none) (n := 0) (c := 0) rfl rfl hbk ⟨rfl, h9.2.2 HBX.out.bl (by omega)⟩

set_option maxRecDepth 100000 in
set_option maxHeartbeats 2000000 in
theorem rleaf_24 (t : ByteArray) (n p tk : Int) (tn : ByteArray) (r u : Int) (w : World) :
    Calls Tryz.prog 69 #[nv ⟨24, t, n, p, tk, tn, r, u⟩ none 0 0] w fun e w' => e = .returned (nv ⟨24, t, n, 0, 0, ⟨#[]⟩, 0, 0⟩ none 0 0) ∧ Below w.heap.size w w' := by
  have HC := Lib.hid (fun wz => rcounts_al ⟨24, t, n, p, tk, tn, r, u⟩ none 0 0 wz true (.inr ⟨rfl, rfl⟩))
  go_enter Tryz.func69, Tryz.ntmps69
  go_wp2_with (go_at_call 55; refine (HC.out _).mono ?_; rintro e w' ⟨rfl, rfl⟩)
  have HB0 : Hid (∀ o1 o2 o3 o4, (o1 = .cells (nc ⟨24, t, n, p, tk, tn, r, u⟩ none 0 0) 26) → (o2 = .cells nc0 26) → (o3 = .cells (nc ⟨24, t, n, 0, 0, ⟨#[]⟩, 0, 0⟩ none 0 0) 26) → Bx w ((((w.alloc o1).alloc o2).alloc o3).alloc o4) (w.heap.size + 1 + 1) (w.heap.size + 1) ⟨24, t, n, 0, 0, ⟨#[]⟩, 0, 0⟩ none 0 0 ∧ ((((w.alloc o1).alloc o2).alloc o3).alloc o4).heap[w.heap.size]? = some (.cells (nc ⟨24, t, n, p, tk, tn, r, u⟩ none 0 0) 26 (0, 0))) := by
    rintro o1 o2 o3 o4 rfl rfl rfl
    have z1 : (w.alloc (.cells (nc ⟨24, t, n, p, tk, tn, r, u⟩ none 0 0) 26)).heap.size = w.heap.size + 1 := by simp
    have z2 : ((w.alloc (.cells (nc ⟨24, t, n, p, tk, tn, r, u⟩ none 0 0) 26)).alloc (.cells nc0 26)).heap.size = w.heap.size + 1 + 1 := by simp
    refine ⟨⟨?_, ?_, by simp, by simp, (((Below.refl _ _).alloc (Nat.le_refl _) _).alloc (by simp) _ |>.alloc (by simp only [World.size_alloc]; omega) _).alloc (by simp only [World.size_alloc]; omega) _⟩, ?_⟩
    · rw [Below.heap_alloc _ _ _ (by simp), ← z2]; exact heap_alloc_new _ _
    · rw [Below.heap_alloc _ _ _ (by simp), Below.heap_alloc _ _ _ (by simp), ← z1]; exact heap_alloc_new _ _
    · rw [Below.heap_alloc _ _ _ (by simp; omega), Below.heap_alloc _ _ _ (by simp; omega), Below.heap_alloc _ _ _ (by simp)]; exact heap_alloc_new _ _
  go_loopw [4] (fun ix wr => ix = .int .i64 ((0 : Nat) : Int) ∧ Bx w wr (w.heap.size + 1 + 1) (w.heap.size + 1) ⟨24, t, n, 0, 0, ⟨#[]⟩, 0, 0⟩ none 0 0 ∧ wr.heap[w.heap.size]? = some (.cells (nc ⟨24, t, n, p, tk, tn, r, u⟩ none 0 0) 26 (0, 0))) (fun ix _ => 0)
  case atStart => exact ⟨rfl, (HB0.out _ _ _ _ rfl rfl rfl).1, (HB0.out _ _ _ _ rfl rfl rfl).2⟩
  case round =>
    obtain ⟨rfl, hbx, hpb⟩ := hrel
    have HPB := Lib.hid hpb
    have pb4 : wr.cell? ⟨w.heap.size, 4, none⟩ = some (.slice none 0 0) := by simp [World.cell?, hpb]
    clear hpb
    have hz := hbx.z
    have HBX := Lib.hid hbx
    have HE : Hid True := trivial
    obtain ⟨a0, a1, a2, a3, a4, a5, a6, a7, a8⟩ := hbx.all
    simp only [Nat.zero_add] at a1 a2 a3 a4 a5 a6 a7 a8
    obtain ⟨hres, hfz⟩ := hbx.res
    obtain ⟨v0, d0⟩ := hres 0 (by omega)
    obtain ⟨v1, d1⟩ := hres 1 (by omega)
    obtain ⟨v2, d2⟩ := hres 2 (by omega)
    obtain ⟨v3, d3⟩ := hres 3 (by omega)
    obtain ⟨v4, d4⟩ := hres 4 (by omega)
    obtain ⟨v5, d5⟩ := hres 5 (by omega)
    obtain ⟨v6, d6⟩ := hres 6 (by omega)
    obtain ⟨v7, d7⟩ := hres 7 (by omega)
    obtain ⟨v8, d8⟩ := hres 8 (by omega)
    clear hres hbx
    have hfz0 := hfz
    clear hfz
    have HF := Lib.hid hfz0
    have f0 := HF.out 0
    have f1 := HF.out 1
    have f2 := HF.out 2
    have f3 := HF.out 3
    have f4 := HF.out 4
    have f5 := HF.out 5
    have f6 := HF.out 6
    have f7 := HF.out 7
    have f8 := HF.out 8
    clear hfz0
    go_wp2
    have h9 := nine w wr (w.heap.size + 1) (.int .i64 (⟨24, t, n, 0, 0, ⟨#[]⟩, 0, 0⟩ : Hd).kind) (.string (⟨24, t, n, 0, 0, ⟨#[]⟩, 0, 0⟩ : Hd).text) (.int .i64 (⟨24, t, n, 0, 0, ⟨#[]⟩, 0, 0⟩ : Hd).num) (.int .i64 (⟨24, t, n, 0, 0, ⟨#[]⟩, 0, 0⟩ : Hd).pos) (.slice none 0 0) (.int .i64 (⟨24, t, n, 0, 0, ⟨#[]⟩, 0, 0⟩ : Hd).tk) (.string (⟨24, t, n, 0, 0, ⟨#[]⟩, 0, 0⟩ : Hd).tn) (.int .i64 (⟨24, t, n, 0, 0, ⟨#[]⟩, 0, 0⟩ : Hd).ref) (.int .i64 (⟨24, t, n, 0, 0, ⟨#[]⟩, 0, 0⟩ : Hd).up) rfl
    have hbk := blk9 (h' := litH 0 0 0) (A' := none) (n' := 0) (c' := 0) (h := ⟨24, t, n, 0, 0, ⟨#[]⟩, 0, 0⟩) (A := none) (n := 0) (c := 0) HBX.out.hr
    exact ret_cell Tryz.results69 (r := w.heap.size + 1) (h := ⟨24, t, n, 0, 0, ⟨#[]⟩, 0, 0⟩) (A := none) (n := 0) (c := 0) rfl rfl hbk ⟨rfl, h9.2.2 HBX.out.bl (by omega)⟩

set_option maxRecDepth 100000 in
set_option maxHeartbeats 2000000 in
theorem rleaf_25 (t : ByteArray) (n p tk : Int) (tn : ByteArray) (r u : Int) (w : World) :
    Calls Tryz.prog 69 #[nv ⟨25, t, n, p, tk, tn, r, u⟩ none 0 0] w fun e w' => e = .returned (nv ⟨25, t, n, 0, 0, ⟨#[]⟩, 0, 0⟩ none 0 0) ∧ Below w.heap.size w w' := by
  have HC := Lib.hid (fun wz => rcounts_al ⟨25, t, n, p, tk, tn, r, u⟩ none 0 0 wz true (.inl ⟨rfl, rfl⟩))
  go_enter Tryz.func69, Tryz.ntmps69
  go_wp2_with (go_at_call 55; refine (HC.out _).mono ?_; rintro e w' ⟨rfl, rfl⟩)
  have HB0 : Hid (∀ o1 o2 o3 o4, (o1 = .cells (nc ⟨25, t, n, p, tk, tn, r, u⟩ none 0 0) 26) → (o2 = .cells nc0 26) → (o3 = .cells (nc ⟨25, t, n, 0, 0, ⟨#[]⟩, 0, 0⟩ none 0 0) 26) → Bx w ((((w.alloc o1).alloc o2).alloc o3).alloc o4) (w.heap.size + 1 + 1) (w.heap.size + 1) ⟨25, t, n, 0, 0, ⟨#[]⟩, 0, 0⟩ none 0 0 ∧ ((((w.alloc o1).alloc o2).alloc o3).alloc o4).heap[w.heap.size]? = some (.cells (nc ⟨25, t, n, p, tk, tn, r, u⟩ none 0 0) 26 (0, 0))) := by
    rintro o1 o2 o3 o4 rfl rfl rfl
    have z1 : (w.alloc (.cells (nc ⟨25, t, n, p, tk, tn, r, u⟩ none 0 0) 26)).heap.size = w.heap.size + 1 := by simp
    have z2 : ((w.alloc (.cells (nc ⟨25, t, n, p, tk, tn, r, u⟩ none 0 0) 26)).alloc (.cells nc0 26)).heap.size = w.heap.size + 1 + 1 := by simp
    refine ⟨⟨?_, ?_, by simp, by simp, (((Below.refl _ _).alloc (Nat.le_refl _) _).alloc (by simp) _ |>.alloc (by simp only [World.size_alloc]; omega) _).alloc (by simp only [World.size_alloc]; omega) _⟩, ?_⟩
    · rw [Below.heap_alloc _ _ _ (by simp), ← z2]; exact heap_alloc_new _ _
    · rw [Below.heap_alloc _ _ _ (by simp), Below.heap_alloc _ _ _ (by simp), ← z1]; exact heap_alloc_new _ _
    · rw [Below.heap_alloc _ _ _ (by simp; omega), Below.heap_alloc _ _ _ (by simp; omega), Below.heap_alloc _ _ _ (by simp)]; exact heap_alloc_new _ _
  go_loopw [4] (fun ix wr => ix = .int .i64 ((0 : Nat) : Int) ∧ Bx w wr (w.heap.size + 1 + 1) (w.heap.size + 1) ⟨25, t, n, 0, 0, ⟨#[]⟩, 0, 0⟩ none 0 0 ∧ wr.heap[w.heap.size]? = some (.cells (nc ⟨25, t, n, p, tk, tn, r, u⟩ none 0 0) 26 (0, 0))) (fun ix _ => 0)
  case atStart => exact ⟨rfl, (HB0.out _ _ _ _ rfl rfl rfl).1, (HB0.out _ _ _ _ rfl rfl rfl).2⟩
  case round =>
    obtain ⟨rfl, hbx, hpb⟩ := hrel
    have HPB := Lib.hid hpb
    have pb4 : wr.cell? ⟨w.heap.size, 4, none⟩ = some (.slice none 0 0) := by simp [World.cell?, hpb]
    clear hpb
    have hz := hbx.z
    have HBX := Lib.hid hbx
    have HE : Hid True := trivial
    obtain ⟨a0, a1, a2, a3, a4, a5, a6, a7, a8⟩ := hbx.all
    simp only [Nat.zero_add] at a1 a2 a3 a4 a5 a6 a7 a8
    obtain ⟨hres, hfz⟩ := hbx.res
    obtain ⟨v0, d0⟩ := hres 0 (by omega)
    obtain ⟨v1, d1⟩ := hres 1 (by omega)
    obtain ⟨v2, d2⟩ := hres 2 (by omega)
    obtain ⟨v3, d3⟩ := hres 3 (by omega)
    obtain ⟨v4, d4⟩ := hres 4 (by omega)
    obtain ⟨v5, d5⟩ := hres 5 (by omega)
    obtain ⟨v6, d6⟩ := hres 6 (by omega)
    obtain ⟨v7, d7⟩ := hres 7 (by omega)
    obtain ⟨v8, d8⟩ := hres 8 (by omega)
    clear hres hbx
    have hfz0 := hfz
    clear hfz
    have HF := Lib.hid hfz0
    have f0 := HF.out 0
    have f1 := HF.out 1
    have f2 := HF.out 2
    have f3 := HF.out 3
    have f4 := HF.out 4
    have f5 := HF.out 5
    have f6 := HF.out 6
    have f7 := HF.out 7
    have f8 := HF.out 8
    clear hfz0
    go_wp2
    have h9 := nine w wr (w.heap.size + 1) (.int .i64 (⟨25, t, n, 0, 0, ⟨#[]⟩, 0, 0⟩ : Hd).kind) (.string (⟨25, t, n, 0, 0, ⟨#[]⟩, 0, 0⟩ : Hd).text) (.int .i64 (⟨25, t, n, 0, 0, ⟨#[]⟩, 0, 0⟩ : Hd).num) (.int .i64 (⟨25, t, n, 0, 0, ⟨#[]⟩, 0, 0⟩ : Hd).pos) (.slice none 0 0) (.int .i64 (⟨25, t, n, 0, 0, ⟨#[]⟩, 0, 0⟩ : Hd).tk) (.string (⟨25, t, n, 0, 0, ⟨#[]⟩, 0, 0⟩ : Hd).tn) (.int .i64 (⟨25, t, n, 0, 0, ⟨#[]⟩, 0, 0⟩ : Hd).ref) (.int .i64 (⟨25, t, n, 0, 0, ⟨#[]⟩, 0, 0⟩ : Hd).up) rfl
    have hbk := blk9 (h' := litH 0 0 0) (A' := none) (n' := 0) (c' := 0) (h := ⟨25, t, n, 0, 0, ⟨#[]⟩, 0, 0⟩) (A := none) (n := 0) (c := 0) HBX.out.hr
    exact ret_cell Tryz.results69 (r := w.heap.size + 1) (h := ⟨25, t, n, 0, 0, ⟨#[]⟩, 0, 0⟩) (A := none) (n := 0) (c := 0) rfl rfl hbk ⟨rfl, h9.2.2 HBX.out.bl (by omega)⟩

/-- Strip, at a node without children. -/
theorem rleaf_any (k : Int) (t : ByteArray) (n : Int) (w : World) : Calls Tryz.prog 69 #[nv ⟨k, t, n, 0, 0, ⟨#[]⟩, 0, 0⟩ none 0 0] w fun e w' => e = .returned (nv (bare ⟨k, t, n, 0, 0, ⟨#[]⟩, 0, 0⟩) none 0 0) ∧ Below w.heap.size w w' := by
  by_cases h24 : k = 24
  · subst h24
    exact rleaf_24 t n 0 0 ⟨#[]⟩ 0 0 w
  · by_cases h25 : k = 25
    · subst h25
      exact rleaf_25 t n 0 0 ⟨#[]⟩ 0 0 w
    · have e : bare ⟨k, t, n, 0, 0, ⟨#[]⟩, 0, 0⟩ = ⟨k, t, 0, 0, 0, ⟨#[]⟩, 0, 0⟩ := by simp [bare, counts, h24, h25]
      rw [e]
      exact rleaf_k k t n 0 0 ⟨#[]⟩ 0 0 w (by simpa using h24) (by simpa using h25)

end Go.Proofs.YtnknphchjmnkcaaGreatDoor
