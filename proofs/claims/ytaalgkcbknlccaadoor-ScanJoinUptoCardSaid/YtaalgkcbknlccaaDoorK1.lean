/-
  The walk of 'awake': the document's example holds.
-/
import Derived.Test.YtaalgkcbknlccaaDoorB2
namespace Go.Proofs.YtaalgkcbknlccaaDoor
open Go.RowKit M

def ex1 : ByteArray := ⟨#[120, 32, 58, 61, 32, 97, 46, 98, 60, 45, 49, 32, 47, 47, 32, 99, 10]⟩
def ex2 : ByteArray := ⟨#[97, 38, 98]⟩
def ex3 : ByteArray := ⟨#[120, 32, 47, 47, 32, 99, 10]⟩
def exL : List Tok := [⟨1, [120], 0⟩, ⟨4, [58, 61], 2⟩, ⟨1, [97], 5⟩, ⟨4, [46], 6⟩, ⟨1, [98], 7⟩, ⟨4, [60, 45], 8⟩, ⟨2, [49], 10⟩, ⟨4, [59], 16⟩]
def exC : List Tok := [⟨5, [47, 47, 32, 99], 2⟩]
theorem ex1_eq : scanL ex1.data.toList = exL ∧ scanA ex1.data.toList = 0 ∧ scanE ex1.data.toList = 0 := by decide +kernel
theorem ex2_eq : scanL ex2.data.toList = [] ∧ scanA ex2.data.toList = 1 ∧ scanE ex2.data.toList = 4 := by decide +kernel
theorem ex3_eq : comL ex3.data.toList = exC := by decide +kernel

theorem small_max {s : ByteArray} (h : s.size ≤ 100) : s.size ≤ maxLen := by unfold maxLen; omega

theorem scan_ex1 (w : World) (hG : Glob w) : Calls Tryd.prog 12 #[.string ex1] w fun e w' => ∃ g cap, e = .returned (.tuple #[.slice (some ⟨g, 0, none⟩) 8 cap, .int .i64 0, .int .i64 0]) ∧ Lies w' g exL ∧ w.heap.size ≤ g ∧ g < w'.heap.size ∧ 8 ≤ cap ∧ Below w.heap.size w w' :=
  (scan_any ex1 w (small_max (by decide)) hG).mono fun e w' h => by
    obtain ⟨A, cap, he, ho, hb⟩ := h
    rw [ex1_eq.1] at he ho
    rw [ex1_eq.2.1, ex1_eq.2.2] at he
    obtain ⟨g, c, hv, h1, h2⟩ := ho.form (by decide)
    injection hv with e1 e2 e3
    subst e1 e3
    refine ⟨g, cap, he, lies_of ho, h1, h2, ?_, hb⟩
    obtain ⟨_, _, _, _, _, h8, _⟩ := (own3_of ho).1
    exact h8
theorem scan_ex2 (w : World) (hG : Glob w) : Calls Tryd.prog 12 #[.string ex2] w fun e w' => ∃ A cap, e = .returned (.tuple #[.slice A 0 cap, .int .i64 1, .int .i64 4]) ∧ Below w.heap.size w w' :=
  (scan_any ex2 w (small_max (by decide)) hG).mono fun e w' h => by
    obtain ⟨A, cap, he, _, hb⟩ := h
    rw [ex2_eq.1, ex2_eq.2.1, ex2_eq.2.2] at he
    exact ⟨A, cap, he, hb⟩
theorem com_ex3 (w : World) (hG : Glob w) : Calls Tryd.prog 15 #[.string ex3] w fun e w' => ∃ g cap, e = .returned (.slice (some ⟨g, 0, none⟩) 1 cap) ∧ Lies w' g exC ∧ g < w'.heap.size ∧ Below w.heap.size w w' :=
  (comments_any ex3 w (small_max (by decide)) hG).mono fun e w' h => by
    obtain ⟨A, cap, he, ho, hb⟩ := h
    rw [ex3_eq] at he ho
    obtain ⟨g, c, hv, h1, h2⟩ := ho.form (by decide)
    injection hv with e1 e2 e3
    subst e1 e3
    exact ⟨g, cap, he, lies_of ho, h2, hb⟩

theorem Glob.below {w w' : World} (h : Glob w) (hb : Below w.heap.size w w') : Glob w' := by
  obtain ⟨⟨te, pe, h1⟩, h2, h3⟩ := h
  exact ⟨⟨te, pe, (hb.cell (p := ⟨2, 0, none⟩) h3).trans h1⟩, fun i hi => (hb.cell (p := ⟨0, i, none⟩) (by show 0 < _; omega)).trans (h2 i hi), by have := hb.size; omega⟩

def exJ : List ByteArray := [⟨#[120]⟩, ⟨#[58, 61]⟩]
theorem exJ_eq : (⟨(joined exJ).toArray⟩ : ByteArray) = ⟨#[120, 32, 58, 61]⟩ := by decide +kernel
theorem exJ_texts {w : World} {g : Nat} (h : Lies w g exL) : Texts w g 0 exJ := by
  intro i hi
  have h2 : i = 0 ∨ i = 1 := by have : exJ.length = 2 := rfl; omega
  rcases h2 with rfl | rfl
  · obtain ⟨a, b, c⟩ := h 0 (by decide)
    exact ⟨1, 0, a, b, c⟩
  · obtain ⟨a, b, c⟩ := h 1 (by decide)
    exact ⟨4, 2, a, b, c⟩
theorem join_ex (g cap : Nat) (w : World) (hg : g < w.heap.size) (h : Lies w g exL) :
    Calls Tryd.prog 19 #[.slice (some ⟨g, 0, none⟩) 2 cap] w fun e w' => e = .returned (.string ⟨#[120, 32, 58, 61]⟩) ∧ Below w.heap.size w w' := by
  have := join_some g 0 cap exJ w hg (exJ_texts h) (by decide) (by decide)
  rw [exJ_eq] at this
  exact this
theorem kw_go (w : World) : Calls Tryd.prog 17 #[.string ⟨#[103, 111]⟩] w fun e w' => e = .returned (.bool true) ∧ w = w' := by
  have := keyword_any ⟨#[103, 111]⟩ w
  rw [show kw (⟨#[103, 111]⟩ : ByteArray).toList = true from by rw [ByteArray.toList_eq]; decide] at this
  exact this

set_option maxRecDepth 100000 in
set_option maxHeartbeats 2000000 in
theorem awake_any (w : World) (hG : Glob w) : Calls Tryd.prog 11 #[] w fun e w' => e = .returned (.bool true) ∧ Below w.heap.size w w' := by
  have HG := Lib.hid hG
  clear hG
  go_enter Tryd.func11, Tryd.ntmps11
  go_wp2_with fail
  refine (scan_ex1 w HG.out).mono ?_
  rintro e w1 ⟨g, cap, rfl, hl, hg0, hg1, h8, hb1⟩
  have G1 := Lib.hid (HG.out.below hb1)
  have L1 := Lib.hid hl
  have B1 := Lib.hid hb1
  clear hb1 hl
  go_wp2_with fail
  refine (scan_ex2 w1 G1.out).mono ?_
  rintro e w2 ⟨A2, cap2, rfl, hb2⟩
  have G2 := Lib.hid (G1.out.below hb2)
  have L2 := Lib.hid (L1.out.below hb2 hg1)
  have hg2 : g < w2.heap.size := by have := hb2.size; omega
  have B2 := Lib.hid (B1.out.trans (hb2.mono B1.out.size))
  clear hb2 L1
  go_wp2_with fail
  refine (com_ex3 w2 G2.out).mono ?_
  rintro e w3 ⟨gc, cap3, rfl, hlc, hgc, hb3⟩
  have L3 := Lib.hid (L2.out.below hb3 hg2)
  have hg3 : g < w3.heap.size := by have := hb3.size; omega
  have B3 := Lib.hid (B2.out.trans (hb3.mono B2.out.size))
  have t5 : w3.cell? ⟨g, 16, none⟩ = some (.string ⟨#[60, 45]⟩) := (L3.out 5 (by decide)).2.1
  have t6 : w3.cell? ⟨g, 18, none⟩ = some (.int .i64 2) := (L3.out 6 (by decide)).1
  have t70 : w3.cell? ⟨g, 21, none⟩ = some (.int .i64 4) := (L3.out 7 (by decide)).1
  have t71 : w3.cell? ⟨g, 22, none⟩ = some (.string ⟨#[59]⟩) := (L3.out 7 (by decide)).2.1
  have t72 : w3.cell? ⟨g, 23, none⟩ = some (.int .i64 16) := (L3.out 7 (by decide)).2.2
  have tc : w3.cell? ⟨gc, 2, none⟩ = some (.int .i64 2) := (hlc 0 (by decide)).2.2
  have hcap : (2 : Int) ≤ (cap : Int) := by omega
  clear hb3 hlc L2 G1 G2 B1 B2
  go_wp2_with (first | (go_at_call 17; refine (kw_go _).mono ?_; rintro e w' ⟨rfl, rfl⟩) | (go_at_call 19; refine (join_ex g cap _ hg3 L3.out).mono ?_; rintro e w4 ⟨rfl, hb4⟩))
  go_ret
  exact ⟨rfl, B3.out.trans (hb4.mono B3.out.size)⟩
end Go.Proofs.YtaalgkcbknlccaaDoor
