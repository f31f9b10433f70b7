/-
  The law SyntaxWalk, whole.
-/
import Derived.Test.YticbcnhbpbaocaaGreatDoorLW
set_option linter.all false
namespace Go.Proofs.YticbcnhbpbaocaaGreatDoor
open Go.RowKit Go.Shelf T T.Fo
set_option linter.all false
attribute [local go_sem] Oper.semAt_some
set_option maxRecDepth 100000 in
set_option maxHeartbeats 8000000 in
theorem walkL_great (h : Hd) (F : Fo) (A : Option Addr) (cap : Nat) (s : Int) (w : World) (hG : Glob w) (hT : Tb w) (h16 : 5 ≤ w.heap.size) (hk : Kids (Lt w.heap.size) w A F) (hc3 : ¬ F.cnt + 1 ≤ 300) (hc : F.cnt + 1 ≤ 1048576) :
    CallsIn Fence.wide 9 Tryz.prog 9 #[nv h A F.len cap, .int .u8 s] w fun e w' => e = .returned (.bool true) ∧ Below w.heap.size w w' := by
  have h1 : 1 ≤ 9 := by omega
  have hro : Fence.wide.round = none := rfl
  refine callsIn_of_wp_marks Tryz.func9 rfl trivial ?_ hro
  simp only [Tryz.ntmps9, List.size_toArray, List.length_cons, List.length_nil, Nat.reduceAdd, Nat.reduceSub, Array.replicate_succ, Array.replicate_zero, List.push_toArray, List.append_toArray, List.nil_append, List.cons_append]
  have HA0 : Hid (Below w.heap.size w (((w.alloc (bx h A F.len cap)).alloc (.cells #[.int .u8 s] 5)).alloc (.cells #[.bool false] 4))) := Lib.hid (((((Below.refl _ _).alloc (Nat.le_refl _) _)).alloc (by simp) _).alloc (by simp; omega) _)
  have HAW : Hid (Calls Tryz.prog 10 #[] (((w.alloc (bx h A F.len cap)).alloc (.cells #[.int .u8 s] 5)).alloc (.cells #[.bool false] 4)) fun e w' => e = .returned (.bool true) ∧ Below w.heap.size w w' ∧ Below (w.heap.size + 3) (((w.alloc (bx h A F.len cap)).alloc (.cells #[.int .u8 s] 5)).alloc (.cells #[.bool false] 4)) w') := Lib.hid ((awake_any _ (glob_below hG HA0.out) (hT.below HA0.out h16) (by simp; omega)).mono fun e w' hq => ⟨hq.1, HA0.out.trans (hq.2.mono (by simp; omega)), by have := hq.2; simpa using this⟩)
  have HGa : Hid (∀ V, Below w.heap.size w V → Calls Tryz.prog 11 #[nv h A F.len cap] V fun e w' => e = .returned (.bool true) ∧ Below V.heap.size V w') := Lib.hid fun V hV => great_yes (kids_at hk hV) (by omega) hc3
  have N0 : Hid (Nb (((w.alloc (bx h A F.len cap)).alloc (.cells #[.int .u8 s] 5)).alloc (.cells #[.bool false] 4)) w.heap.size h A F.len cap) := Lib.hid (((Nb.new w h A F.len cap).below ((Below.refl _ _).alloc (Nat.le_refl _) _)).below ((Below.refl _ _).alloc (Nat.le_refl _) _))
  have HR0 : Hid ((((w.alloc (bx h A F.len cap)).alloc (.cells #[.int .u8 s] 5)).alloc (.cells #[.bool false] 4)).heap[w.heap.size + 1 + 1]? = some (.cells #[.bool false] 4 (0, 0))) := Lib.hid (by
    have := heap_alloc_new ((w.alloc (bx h A F.len cap)).alloc (.cells #[.int .u8 s] 5)) (.cells #[.bool false] 4)
    simpa using this)
  obtain ⟨na, hna⟩ : ∃ n, F.len = n := ⟨_, rfl⟩
  rw [hna] at HA0 HAW HGa N0 HR0 ⊢
  clear hna hG hT h16 hk
  gi_wp2_with (first
    | (refine ⟨trivial, ?_⟩; gi_at_call 10; refine ((callsIn_wide (n := 8)).2 HAW.out).mono ?_; rintro e w1 ⟨rfl, hb1, hb1'⟩; have B1 := Lib.hid hb1; have N1 := Lib.hid (N0.out.below (by have := hb1'; simpa using this)); obtain ⟨p0, p1, p2, p3, p4, p5, p6, p7, p8⟩ := N1.out.cells; have R1 := Lib.hid ((hb1'.block _ (by omega)).trans HR0.out); clear hb1 hb1')
    | (refine ⟨trivial, ?_⟩; gi_at_call 11; refine ((callsIn_wide (n := 8)).2 (HGa.out _ B1.out)).mono ?_; rintro e w2 ⟨rfl, hb2⟩; have B2 : Hid (Below w.heap.size w w2) := Lib.hid (B1.out.trans (hb2.mono B1.out.size)); have R2 := Lib.hid ((hb2.block _ (Array.getElem?_eq_some_iff.1 R1.out).1).trans R1.out); have r2 := R2.out; have c4 : w2.cell? ⟨w.heap.size + 1 + 1, 0, none⟩ = some (.bool false) := (by simp [World.cell?, r2]); have f4 : w2.frozen? ⟨w.heap.size + 1 + 1, 0, none⟩ = false := (by simp [World.frozen?, r2]); clear r2 hb2))
  have hRC : (w2.setCell ⟨w.heap.size + 1 + 1, 0, none⟩ (.bool true)).cell? ⟨w.heap.size + 1 + 1, 0, none⟩ = some (.bool true) := World.cell?_setCell_same' _ _ _ (by rw [c4]; rfl)
  have hBX : Below w.heap.size w (w2.setCell ⟨w.heap.size + 1 + 1, 0, none⟩ (.bool true)) := B2.out.setCell (by show w.heap.size ≤ w.heap.size + 1 + 1; omega) _
  exact ⟨.bool true, by simp [results, Tryz.results9, go_sem, hRC], rfl, hBX⟩
theorem walkL_any (h : Hd) (F : Fo) (A : Option Addr) (cap : Nat) (s : Int) (hs : (Lit.int .u8 s).wf = true) (w : World) (hG : Glob w) (hT : Tb w) (h16 : 5 ≤ w.heap.size) (hk : Kids (Lt w.heap.size) w A F) (hcap : F.len ≤ cap) (hc : F.cnt + 1 ≤ 1048576) :
    Calls Tryz.prog 9 #[nv h A F.len cap, .int .u8 s] w fun e w' => e = .returned (.bool true) ∧ Below w.heap.size w w' := by
  unfold Lit.wf at hs
  rw [Bool.and_eq_true, decide_eq_true_eq, decide_eq_true_eq] at hs
  have h1 : (0 : Int) ≤ s := hs.1
  have h2 : s ≤ 255 := hs.2
  refine (callsIn_wide (n := 9)).1 ?_
  by_cases g : F.cnt + 1 ≤ 300
  · exact walkL_main h F A cap s w hG hT h16 hk hcap g h1 h2
  · exact walkL_great h F A cap s w hG hT h16 hk g hc
end Go.Proofs.YticbcnhbpbaocaaGreatDoor
