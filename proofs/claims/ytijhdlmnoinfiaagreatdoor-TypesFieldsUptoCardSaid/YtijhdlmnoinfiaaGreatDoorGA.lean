/-
  The walk of awake.
-/
import Derived.Test.YtijhdlmnoinfiaaGreatDoorFJ
import Derived.Test.YtijhdlmnoinfiaaGreatDoorFG
import Derived.Test.YtijhdlmnoinfiaaGreatDoorFH
import Derived.Deep.DeepCutAuto
set_option linter.all false
namespace Go.Proofs.YtijhdlmnoinfiaaGreatDoor
open Go.RowKit T T.Fo Ty

theorem nam_T : nam ⟨#[84]⟩ = true := by unfold nam; decide
theorem vB_T : vB 4 ⟨#[84]⟩ = true := nam_T
theorem rB_T : rB 4 ⟨#[84]⟩ = true := by rw [rB_in (by omega) (by omega)]; exact vB_T
theorem valB_T : valB 4 ⟨#[84]⟩ = true := by unfold valB; rw [rB_T]; simp
theorem txt_T : txtB 4 ⟨#[84]⟩ = ⟨#[42, 84]⟩ := by unfold txtB txt; rw [vB_T]; rfl
theorem cel_T : celB 4 ⟨#[84]⟩ = 1 := by unfold celB; rw [rB_T]; rfl
theorem cm_T : cmB 4 ⟨#[84]⟩ 4 ⟨#[84]⟩ = true := by
  rw [cm_c (isK_no (.inl (by omega))) (isK_no (.inl (by omega))), valB_T]
  unfold Ty.sm; simp
theorem cm_5 : cmB 5 ⟨#[]⟩ 5 ⟨#[]⟩ = false := (cm_no (isK_no (.inl (by omega))) (isK_no (.inl (by omega))) (.inr (.inr (.inl rfl)))).symm
theorem bin_ex : binC 2 1 ⟨#[]⟩ 1 ⟨#[]⟩ = 2 := by
  have e : (⟨#[]⟩ : ByteArray).toList = [] := by rw [ByteArray.toList_eq]
  unfold binC isK emp; simp [e]

/-- What stands through the example's test. -/
structure Ax (p1 p2 p3 p5 p6 p8 : Nat) (w W : World) : Prop where
  z : p8 < W.heap.size
  l1 : p1 < W.heap.size
  l2 : p2 < W.heap.size
  l3 : p3 < W.heap.size
  l5 : p5 < W.heap.size
  l6 : p6 < W.heap.size
  h1 : W.heap[p1]? = some (.cells #[.int .i64 4, .string ⟨#[84]⟩] 24 (0, 0))
  h2 : W.heap[p2]? = some (.cells #[.int .i64 1, .string ⟨#[]⟩] 24 (0, 0))
  h3 : W.heap[p3]? = some (.cells #[.int .i64 2, .string ⟨#[]⟩] 24 (0, 0))
  h5 : W.heap[p5]? = some (.cells #[.int .i64 1, .string ⟨#[]⟩] 24 (0, 0))
  h6 : W.heap[p6]? = some (.cells #[.int .i64 1, .string ⟨#[]⟩] 24 (0, 0))
  h8 : W.heap[p8]? = some (.cells #[.int .i64 5, .string ⟨#[]⟩] 24 (0, 0))
  b : Below w.heap.size w W
theorem Ax.keep {p1 p2 p3 p5 p6 p8 : Nat} {w W W' : World} (h : Ax p1 p2 p3 p5 p6 p8 w W) (hb : Below W.heap.size W W') (hw : w.heap.size ≤ W.heap.size) : Ax p1 p2 p3 p5 p6 p8 w W' :=
  have hs := hb.size
  ⟨by have := h.z; omega, by have := h.l1; omega, by have := h.l2; omega, by have := h.l3; omega, by have := h.l5; omega, by have := h.l6; omega, (hb.block _ h.l1).trans h.h1, (hb.block _ h.l2).trans h.h2, (hb.block _ h.l3).trans h.h3, (hb.block _ h.l5).trans h.h5, (hb.block _ h.l6).trans h.h6, (hb.block _ h.z).trans h.h8, h.b.trans (hb.mono hw)⟩
theorem Ax.go {p1 p2 p3 p5 p6 p8 : Nat} {w W : World} (h : Ax p1 p2 p3 p5 p6 p8 w W) : p8 < W.heap.size ∧ W.cell? ⟨p1, 0, none⟩ = some (.int .i64 4) ∧ W.cell? ⟨p1, 1, none⟩ = some (.string ⟨#[84]⟩) ∧ W.cell? ⟨p2, 0, none⟩ = some (.int .i64 1) ∧ W.cell? ⟨p2, 1, none⟩ = some (.string ⟨#[]⟩) ∧ W.cell? ⟨p3, 0, none⟩ = some (.int .i64 2) ∧ W.cell? ⟨p3, 1, none⟩ = some (.string ⟨#[]⟩) ∧ W.cell? ⟨p5, 0, none⟩ = some (.int .i64 1) ∧ W.cell? ⟨p5, 1, none⟩ = some (.string ⟨#[]⟩) ∧ W.cell? ⟨p6, 0, none⟩ = some (.int .i64 1) ∧ W.cell? ⟨p6, 1, none⟩ = some (.string ⟨#[]⟩) ∧ W.cell? ⟨p8, 0, none⟩ = some (.int .i64 5) ∧ W.cell? ⟨p8, 1, none⟩ = some (.string ⟨#[]⟩) ∧ Below w.heap.size w W :=
  ⟨h.z, (box2 h.h1).1, (box2 h.h1).2.1, (box2 h.h2).1, (box2 h.h2).2.1, (box2 h.h3).1, (box2 h.h3).2.1, (box2 h.h5).1, (box2 h.h5).2.1, (box2 h.h6).1, (box2 h.h6).2.1, (box2 h.h8).1, (box2 h.h8).2.1, h.b⟩
theorem Ax.dr {p1 p2 p3 p5 p6 p8 : Nat} {w W : World} (h : Ax p1 p2 p3 p5 p6 p8 w W) : p8 < W.drew.heap.size ∧ W.drew.cell? ⟨p1, 0, none⟩ = some (.int .i64 4) ∧ W.drew.cell? ⟨p1, 1, none⟩ = some (.string ⟨#[84]⟩) ∧ W.drew.cell? ⟨p2, 0, none⟩ = some (.int .i64 1) ∧ W.drew.cell? ⟨p2, 1, none⟩ = some (.string ⟨#[]⟩) ∧ W.drew.cell? ⟨p3, 0, none⟩ = some (.int .i64 2) ∧ W.drew.cell? ⟨p3, 1, none⟩ = some (.string ⟨#[]⟩) ∧ W.drew.cell? ⟨p5, 0, none⟩ = some (.int .i64 1) ∧ W.drew.cell? ⟨p5, 1, none⟩ = some (.string ⟨#[]⟩) ∧ W.drew.cell? ⟨p6, 0, none⟩ = some (.int .i64 1) ∧ W.drew.cell? ⟨p6, 1, none⟩ = some (.string ⟨#[]⟩) ∧ W.drew.cell? ⟨p8, 0, none⟩ = some (.int .i64 5) ∧ W.drew.cell? ⟨p8, 1, none⟩ = some (.string ⟨#[]⟩) ∧ Below w.heap.size w W.drew :=
  have h' := h.go
  ⟨h.z, h'.2.1, h'.2.2.1, h'.2.2.2.1, h'.2.2.2.2.1, h'.2.2.2.2.2.1, h'.2.2.2.2.2.2.1, h'.2.2.2.2.2.2.2.1, h'.2.2.2.2.2.2.2.2.1, h'.2.2.2.2.2.2.2.2.2.1, h'.2.2.2.2.2.2.2.2.2.2.1, h'.2.2.2.2.2.2.2.2.2.2.2.1, h'.2.2.2.2.2.2.2.2.2.2.2.2.1, Below.drew h.b⟩
theorem ax_kp {p1 p2 p3 p5 p6 p8 : Nat} {w W W' : World} (qp1 : p1 ≤ p8) (qp2 : p2 ≤ p8) (qp3 : p3 ≤ p8) (qp5 : p5 ≤ p8) (qp6 : p6 ≤ p8) (qw : w.heap.size ≤ p8) (h : p8 < W.heap.size ∧ W.cell? ⟨p1, 0, none⟩ = some (.int .i64 4) ∧ W.cell? ⟨p1, 1, none⟩ = some (.string ⟨#[84]⟩) ∧ W.cell? ⟨p2, 0, none⟩ = some (.int .i64 1) ∧ W.cell? ⟨p2, 1, none⟩ = some (.string ⟨#[]⟩) ∧ W.cell? ⟨p3, 0, none⟩ = some (.int .i64 2) ∧ W.cell? ⟨p3, 1, none⟩ = some (.string ⟨#[]⟩) ∧ W.cell? ⟨p5, 0, none⟩ = some (.int .i64 1) ∧ W.cell? ⟨p5, 1, none⟩ = some (.string ⟨#[]⟩) ∧ W.cell? ⟨p6, 0, none⟩ = some (.int .i64 1) ∧ W.cell? ⟨p6, 1, none⟩ = some (.string ⟨#[]⟩) ∧ W.cell? ⟨p8, 0, none⟩ = some (.int .i64 5) ∧ W.cell? ⟨p8, 1, none⟩ = some (.string ⟨#[]⟩) ∧ Below w.heap.size w W) (hb : Below W.heap.size W W') : p8 < W'.heap.size ∧ W'.cell? ⟨p1, 0, none⟩ = some (.int .i64 4) ∧ W'.cell? ⟨p1, 1, none⟩ = some (.string ⟨#[84]⟩) ∧ W'.cell? ⟨p2, 0, none⟩ = some (.int .i64 1) ∧ W'.cell? ⟨p2, 1, none⟩ = some (.string ⟨#[]⟩) ∧ W'.cell? ⟨p3, 0, none⟩ = some (.int .i64 2) ∧ W'.cell? ⟨p3, 1, none⟩ = some (.string ⟨#[]⟩) ∧ W'.cell? ⟨p5, 0, none⟩ = some (.int .i64 1) ∧ W'.cell? ⟨p5, 1, none⟩ = some (.string ⟨#[]⟩) ∧ W'.cell? ⟨p6, 0, none⟩ = some (.int .i64 1) ∧ W'.cell? ⟨p6, 1, none⟩ = some (.string ⟨#[]⟩) ∧ W'.cell? ⟨p8, 0, none⟩ = some (.int .i64 5) ∧ W'.cell? ⟨p8, 1, none⟩ = some (.string ⟨#[]⟩) ∧ Below w.heap.size w W' := by
  obtain ⟨z, cp10, cp11, cp20, cp21, cp30, cp31, cp50, cp51, cp60, cp61, cp80, cp81, hB⟩ := h
  have hs := hb.size
  exact ⟨by omega, (hb.cell (p := ⟨p1, 0, none⟩) (Nat.lt_of_le_of_lt qp1 z)).trans cp10, (hb.cell (p := ⟨p1, 1, none⟩) (Nat.lt_of_le_of_lt qp1 z)).trans cp11, (hb.cell (p := ⟨p2, 0, none⟩) (Nat.lt_of_le_of_lt qp2 z)).trans cp20, (hb.cell (p := ⟨p2, 1, none⟩) (Nat.lt_of_le_of_lt qp2 z)).trans cp21, (hb.cell (p := ⟨p3, 0, none⟩) (Nat.lt_of_le_of_lt qp3 z)).trans cp30, (hb.cell (p := ⟨p3, 1, none⟩) (Nat.lt_of_le_of_lt qp3 z)).trans cp31, (hb.cell (p := ⟨p5, 0, none⟩) (Nat.lt_of_le_of_lt qp5 z)).trans cp50, (hb.cell (p := ⟨p5, 1, none⟩) (Nat.lt_of_le_of_lt qp5 z)).trans cp51, (hb.cell (p := ⟨p6, 0, none⟩) (Nat.lt_of_le_of_lt qp6 z)).trans cp60, (hb.cell (p := ⟨p6, 1, none⟩) (Nat.lt_of_le_of_lt qp6 z)).trans cp61, (hb.cell (p := ⟨p8, 0, none⟩) z).trans cp80, (hb.cell (p := ⟨p8, 1, none⟩) z).trans cp81, hB.trans (hb.mono (by omega))⟩

set_option maxRecDepth 100000 in
set_option maxHeartbeats 8000000 in
theorem awake_any (w : World) (hG : Glot w) : Calls Tryz.prog 10 #[] w fun e w' => e = .returned (.bool true) ∧ Below w.heap.size w w' := by
  have hm0 : (⟨#[]⟩ : ByteArray).size ≤ maxLen := by unfold maxLen; decide
  have hmT : (⟨#[84]⟩ : ByteArray).size ≤ maxLen := by unfold maxLen; decide
  have HB27 : Hid (∀ V, Below w.heap.size w V → Calls Tryz.prog 27 #[.string ⟨#[60]⟩, tyv 1 ⟨#[]⟩, tyv 1 ⟨#[]⟩] V fun e w' => e = .returned (.tuple #[tyv 2 ⟨#[]⟩, .bool true]) ∧ Below V.heap.size V w') := Lib.hid fun V hV => (ybin_60 1 ⟨#[]⟩ 1 ⟨#[]⟩ V hm0 hm0 (glob_below hG.1 hV)).mono fun e w' hq => ⟨by rw [hq.1, bin_ex]; rfl, hq.2⟩
  have HM : Hid (∀ V, Below w.heap.size w V → Calls Tryz.prog 33 #[tyv 12 ⟨#[]⟩, .string ⟨#[65, 100, 100]⟩] V fun e w' => ∃ g, e = .returned (.tuple #[.slice (some ⟨g, 0, none⟩) 1 1, tyv 1 ⟨#[]⟩, .bool true]) ∧ w'.heap[g]? = some (.cells #[.int .i64 1, .string ⟨#[]⟩] 24 (0, 0)) ∧ V.heap.size ≤ g ∧ g < w'.heap.size ∧ Below V.heap.size V w') := Lib.hid fun V hV => ymethod_add V (glob_below hG.1 hV)
  have H16 : Hid (∀ V, Below w.heap.size w V → Calls Tryz.prog 16 #[tyv 4 ⟨#[84]⟩] V fun e w' => e = .returned (.string ⟨#[42, 84]⟩) ∧ Below V.heap.size V w') := Lib.hid fun V hV => txt_T ▸ ytext_any 4 ⟨#[84]⟩ V hmT (hG.below hV)
  have H25 : Hid (∀ V, Below w.heap.size w V → Calls Tryz.prog 25 #[tyv 4 ⟨#[84]⟩, tyv 4 ⟨#[84]⟩] V fun e w' => e = .returned (.bool true) ∧ Below V.heap.size V w') := Lib.hid fun V hV => cm_T ▸ ycompare_any 4 ⟨#[84]⟩ 4 ⟨#[84]⟩ V hmT hmT (glob_below hG.1 hV)
  have H25b : Hid (∀ V, Below w.heap.size w V → Calls Tryz.prog 25 #[tyv 5 ⟨#[]⟩, tyv 5 ⟨#[]⟩] V fun e w' => e = .returned (.bool false) ∧ Below V.heap.size V w') := Lib.hid fun V hV => cm_5 ▸ ycompare_any 5 ⟨#[]⟩ 5 ⟨#[]⟩ V hm0 hm0 (glob_below hG.1 hV)
  have H18 : Hid (∀ V, Below w.heap.size w V → Calls Tryz.prog 18 #[tyv 4 ⟨#[84]⟩] V fun e w' => e = .returned (.int .i64 1) ∧ Below V.heap.size V w') := Lib.hid fun V hV => cel_T ▸ ycell_any 4 ⟨#[84]⟩ V hmT (glob_below hG.1 hV)
  have H20 : Hid (∀ V, Below w.heap.size w V → Calls Tryz.prog 20 #[tyv 4 ⟨#[84]⟩] V fun e w' => e = .returned (.bool true) ∧ Below V.heap.size V w') := Lib.hid fun V hV => valB_T ▸ yvalue_any 4 ⟨#[84]⟩ V hmT (glob_below hG.1 hV)
  clear hG hm0 hmT
  go_enter Tryz.func10, Tryz.ntmps10
  go_wp2_with fail
  refine (HB27.out _ ((b1 w _).alloc (by simp) _)).mono ?_
  rintro e V ⟨rfl, hb⟩
  have s1 : (w.alloc (.cells #[.int .i64 4, .string ⟨#[84]⟩] 24)).heap.size = w.heap.size + 1 := by simp
  have v1 : V.heap[w.heap.size]? = some (.cells #[.int .i64 4, .string ⟨#[84]⟩] 24 (0, 0)) := (hb.block _ (by simp; omega)).trans ((Below.heap_alloc _ _ _ (by simp)).trans (heap_alloc_new w _))
  have v2 : V.heap[w.heap.size + 1]? = some (.cells #[.int .i64 1, .string ⟨#[]⟩] 24 (0, 0)) := (hb.block _ (by simp)).trans (by
    have := heap_alloc_new (w.alloc (.cells #[.int .i64 4, .string ⟨#[84]⟩] 24)) (.cells #[.int .i64 1, .string ⟨#[]⟩] 24)
    rw [s1] at this
    exact this)
  have vz : w.heap.size + 1 < V.heap.size := by have := hb.size; simp at this; omega
  have vb : Below w.heap.size w V := ((b1 w _).alloc (by simp) _).trans (hb.mono (by simp; omega))
  have HVB := Lib.hid vb
  clear hb s1
  have HH1 := Lib.hid v1
  have HH2 := Lib.hid v2
  clear v1 v2 vb
  go_wp2_with fail
  refine (HM.out _ (HVB.out.alloc (by omega) _)).mono ?_
  rintro e V2 ⟨g, rfl, hg, hg1, hg2, hb⟩
  have HAX : Hid (Ax (w.heap.size) (w.heap.size + 1) V.heap.size g V2.heap.size (V2.heap.size + 1) w ((V2.alloc (.cells #[.int .i64 1, .string ⟨#[]⟩] 24)).alloc (.cells #[.int .i64 5, .string ⟨#[]⟩] 24))) := Lib.hid (by
    have z2 : V.heap.size + 1 ≤ V2.heap.size := by have := hb.size; simp at this; omega
    have al : ∀ b, b < V2.heap.size → ((V2.alloc (.cells #[.int .i64 1, .string ⟨#[]⟩] 24)).alloc (.cells #[.int .i64 5, .string ⟨#[]⟩] 24)).heap[b]? = V2.heap[b]? := fun b h => (Below.heap_alloc _ _ _ (by simp; omega)).trans (Below.heap_alloc _ _ _ h)
    have ol : ∀ b, b < V.heap.size → V2.heap[b]? = V.heap[b]? := fun b h => (hb.block _ (by simp; omega)).trans (Below.heap_alloc _ _ _ h)
    have hs : ((V2.alloc (.cells #[.int .i64 1, .string ⟨#[]⟩] 24)).alloc (.cells #[.int .i64 5, .string ⟨#[]⟩] 24)).heap.size = V2.heap.size + 1 + 1 := by simp
    refine ⟨by omega, by omega, by omega, by omega, by omega, by omega, (al _ (by omega)).trans ((ol _ (by omega)).trans HH1.out), (al _ (by omega)).trans ((ol _ (by omega)).trans HH2.out), (al _ (by omega)).trans ((hb.block _ (by simp)).trans (heap_alloc_new V _)), (al _ hg2).trans hg, (Below.heap_alloc _ _ _ (by simp)).trans (heap_alloc_new V2 _), ?_, ?_⟩
    · have := heap_alloc_new (V2.alloc (.cells #[.int .i64 1, .string ⟨#[]⟩] 24)) (.cells #[.int .i64 5, .string ⟨#[]⟩] 24)
      simp only [World.size_alloc] at this
      exact this
    · exact (((HVB.out.alloc (by omega) _).trans (hb.mono (by simp; omega))).alloc (by omega) _).alloc (by simp; omega) _)
  have zz : V.heap.size + 1 ≤ V2.heap.size := by
    have := hb.size
    simp only [World.size_alloc] at this
    exact this
  have q1 : w.heap.size ≤ V2.heap.size + 1 := by omega
  have q2 : w.heap.size + 1 ≤ V2.heap.size + 1 := by omega
  have q3 : V.heap.size ≤ V2.heap.size + 1 := by omega
  have q5 : g ≤ V2.heap.size + 1 := by omega
  have q6 : V2.heap.size ≤ V2.heap.size + 1 := by omega
  have HQ := Lib.hid (And.intro q1 (And.intro q2 (And.intro q3 (And.intro q5 q6))))
  clear hb hg hg1 hg2 q1 q2 q3 q5 q6 vz zz
  go_wp2_with fail
  go_region_held3 (fun w' => V2.heap.size + 1 < w'.heap.size ∧ w'.cell? ⟨w.heap.size, 0, none⟩ = some (.int .i64 4) ∧ w'.cell? ⟨w.heap.size, 1, none⟩ = some (.string ⟨#[84]⟩) ∧ w'.cell? ⟨w.heap.size + 1, 0, none⟩ = some (.int .i64 1) ∧ w'.cell? ⟨w.heap.size + 1, 1, none⟩ = some (.string ⟨#[]⟩) ∧ w'.cell? ⟨V.heap.size, 0, none⟩ = some (.int .i64 2) ∧ w'.cell? ⟨V.heap.size, 1, none⟩ = some (.string ⟨#[]⟩) ∧ w'.cell? ⟨g, 0, none⟩ = some (.int .i64 1) ∧ w'.cell? ⟨g, 1, none⟩ = some (.string ⟨#[]⟩) ∧ w'.cell? ⟨V2.heap.size, 0, none⟩ = some (.int .i64 1) ∧ w'.cell? ⟨V2.heap.size, 1, none⟩ = some (.string ⟨#[]⟩) ∧ w'.cell? ⟨V2.heap.size + 1, 0, none⟩ = some (.int .i64 5) ∧ w'.cell? ⟨V2.heap.size + 1, 1, none⟩ = some (.string ⟨#[]⟩) ∧ Below w.heap.size w w')
    (first
      | exact HAX.out.dr
      | exact ax_kp HQ.out.1 HQ.out.2.1 HQ.out.2.2.1 HQ.out.2.2.2.1 HQ.out.2.2.2.2 HQ.out.1 (by first | assumption | exact HAX.out.dr) hb)
    (first
      | (go_at_call 16; (with_reducible refine (H16.out _ ?_).mono ?_); (go_split_ands; assumption); rintro e w' ⟨rfl, hb⟩)
      | (go_at_call 25; (with_reducible refine (H25.out _ ?_).mono ?_); (go_split_ands; assumption); rintro e w' ⟨rfl, hb⟩)
      | (go_at_call 25; (with_reducible refine (H25b.out _ ?_).mono ?_); (go_split_ands; assumption); rintro e w' ⟨rfl, hb⟩)
      | (go_at_call 18; (with_reducible refine (H18.out _ ?_).mono ?_); (go_split_ands; assumption); rintro e w' ⟨rfl, hb⟩)
      | (go_at_call 20; (with_reducible refine (H20.out _ ?_).mono ?_); (go_split_ands; assumption); rintro e w' ⟨rfl, hb⟩))
  all_goals
    have HBE : Hid (Below w.heap.size w w') := Lib.hid (by go_split_ands; assumption)
    go_wp2
    go_ret
    exact ⟨rfl, HBE.out⟩
end Go.Proofs.YtijhdlmnoinfiaaGreatDoor
