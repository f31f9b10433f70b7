/-
  The walk of the law's own awake (package interleavelaw07).
-/
import Derived.Test.YtnknphchjmnkcaaGreatDoorFR
import Derived.Test.YtnknphchjmnkcaaGreatDoorFP
import Derived.Test.YtnknphchjmnkcaaGreatDoorCB
set_option linter.all false
namespace Go.Proofs.YtnknphchjmnkcaaGreatDoor
open Go.RowKit T T.Fo
abbrev L24 (n : Int) : Hd := ⟨24, ⟨#[]⟩, n, 0, 0, ⟨#[]⟩, 0, 0⟩
abbrev B32 (op : ByteArray) : Hd := ⟨32, op, 0, 0, 0, ⟨#[]⟩, 0, 0⟩
abbrev NX : Hd := ⟨27, ⟨#[120]⟩, 0, 0, 0, ⟨#[]⟩, 0, 0⟩
abbrev two (a b : Hd) : Fo := .cons a .nil (.cons b .nil .nil)
abbrev sumK : Fo := .cons (B32 ⟨#[42]⟩) (two (L24 2) (L24 3)) (.cons NX .nil .nil)
theorem ev_one : evT (B32 ⟨#[45]⟩) (two (L24 1) (L24 3)) = ⟨24, -2⟩ := by decide +kernel
theorem ev_two : evT (B32 ⟨#[47]⟩) (two (L24 1) (L24 0)) = no := by decide +kernel
theorem file_sum : fileT (pNode 1 ⟨#[]⟩) (prK (B32 ⟨#[43]⟩) sumK) = (pNode 1 ⟨#[]⟩, prK (B32 ⟨#[43]⟩) (two (L24 6) NX)) := by
  have e : nm = fun s => M.nmB s.data.toList := funext fun s => M.nmS_eq s.data.toList
  have v : validT nm (pNode 1 ⟨#[]⟩) (prK (B32 ⟨#[43]⟩) sumK) = true := by rw [e]; decide +kernel
  unfold fileT
  rw [if_pos v]
  decide +kernel
theorem eq_sum : eqT (B32 ⟨#[43]⟩) (two (L24 6) NX) (B32 ⟨#[43]⟩) (two (L24 6) NX) = true := by decide +kernel
theorem numIx_sum : numIx (pNode 1 ⟨#[]⟩) ∧ (prK (B32 ⟨#[43]⟩) sumK).AllH numIx := by
  simp only [numIx, Fo.AllH, prK, pNode, sumK, two, maxLen]
  decide
/-- A tree of two children that a call returns. -/
def Got2 (h : Hd) (k : Fo) (w : World) (e : Ending) (w' : World) : Prop := ∃ (A : Option Addr) (cap : Nat), e = .returned (nv h A 2 cap) ∧ Kids (Lt w'.heap.size) w' A k ∧ Below w.heap.size w w' ∧ 2 ≤ cap
def Got0 (h : Hd) (w : World) (e : Ending) (w' : World) : Prop := ∃ (A : Option Addr) (cap : Nat), e = .returned (nv h A 0 cap) ∧ Below w.heap.size w w'
def Got1 (h : Hd) (k : Fo) (w : World) (e : Ending) (w' : World) : Prop := ∃ (A : Option Addr) (cap : Nat), e = .returned (nv h A 1 cap) ∧ Kids (Lt w'.heap.size) w' A k ∧ Below w.heap.size w w'
theorem num_call (n : Int) (h0 : 0 ≤ n) (h1 : n ≤ 100) (V : World) : Calls Tryz.prog 21 #[.int .i64 n] V (Got0 (L24 n) V) := by
  have := number_any n V (by unfold rg; omega)
  unfold numT at this
  rw [if_pos h0] at this
  exact this.mono fun e w' ⟨A, c, a, _, _, d⟩ => ⟨A, c, a, d⟩
theorem bin_call (op : ByteArray) (h1 h2 : Hd) (A1 A2 : Option Addr) (c1 c2 : Nat) (V : World) : Calls Tryz.prog 20 #[.string op, nv h1 A1 0 c1, nv h2 A2 0 c2] V (Got2 (B32 op) (two h1 h2) V) :=
  (binary_any op h1 h2 .nil .nil A1 A2 c1 c2 V (Nat.zero_le _) (.inl rfl) (Nat.zero_le _) (.inl rfl)).mono fun e w' ⟨A, c, a, b, k, d⟩ => ⟨A, c, a, k, d, b⟩
theorem val_call (h : Hd) (k : Fo) (n : Nat) (hn : k.len = n) (A : Option Addr) (c : Nat) (V : World) (hk : Kids (Lt V.heap.size) V A k) (hd : k.dep + 1 ≤ 65536) (cv : Cv) (b : Bool) (he : evT h k = cv) (hb : (cv.k != 0) = b) : Calls Tryz.prog 14 #[nv h A n c] V (RetV cv.v b V) := by
  subst hn he hb
  exact value_any h k A c V hk hd
set_option maxRecDepth 100000 in
set_option maxHeartbeats 4000000 in
theorem awake_any (w : World) (hG : Glob w) : Calls Tryz.prog 12 #[] w fun e w' => e = .returned (.bool true) ∧ Below w.heap.size w w' := by
  have HG := Lib.hid hG
  clear hG
  go_enter Tryz.func12, Tryz.ntmps12
  go_wp2_with fail
  refine (num_call 1 (by decide) (by decide) _).mono ?_
  rintro e w1 ⟨A1, c1, rfl, b1⟩
  have B1 := Lib.hid b1
  clear b1
  go_wp2_with fail
  refine (num_call 3 (by decide) (by decide) _).mono ?_
  rintro e w2 ⟨A2, c2, rfl, b2⟩
  have B2 := Lib.hid (B1.out.trans (b2.mono B1.out.size))
  clear b2
  go_wp2_with fail
  refine (bin_call _ _ _ _ _ _ _ _).mono ?_
  rintro e w3 ⟨A3, c3, rfl, k3, b3, l3⟩
  have B3 := Lib.hid (B2.out.trans (b3.mono B2.out.size))
  have K3 := Lib.hid k3
  have L3 := Lib.hid l3
  clear b3 k3 l3
  go_wp2_with fail
  refine (val_call _ _ 2 rfl _ _ _ K3.out (by decide) ⟨24, -2⟩ true ev_one rfl).mono ?_
  rintro e w4 ⟨rfl, b4⟩
  have B4 := Lib.hid (B3.out.trans (b4.mono B3.out.size))
  clear b4
  go_wp2_with fail
  refine (num_call 1 (by decide) (by decide) _).mono ?_
  rintro e w5 ⟨A4, c4, rfl, b5⟩
  have B5 := Lib.hid (B4.out.trans (b5.mono B4.out.size))
  clear b5
  go_wp2_with fail
  refine (num_call 0 (by decide) (by decide) _).mono ?_
  rintro e w6 ⟨A5, c5, rfl, b6⟩
  have B6 := Lib.hid (B5.out.trans (b6.mono B5.out.size))
  clear b6
  go_wp2_with fail
  refine (bin_call _ _ _ _ _ _ _ _).mono ?_
  rintro e w7 ⟨A6, c6, rfl, k6, b7, l6⟩
  have B7 := Lib.hid (B6.out.trans (b7.mono B6.out.size))
  have K6 := Lib.hid k6
  have L6 := Lib.hid l6
  clear b7 k6 l6
  go_wp2_with fail
  refine (val_call _ _ 2 rfl _ _ _ K6.out (by decide) no false ev_two rfl).mono ?_
  rintro e w8 ⟨rfl, b8⟩
  have B8 := Lib.hid (B7.out.trans (b8.mono B7.out.size))
  clear b8
  go_wp2_with fail
  refine (num_call 2 (by decide) (by decide) _).mono ?_
  rintro e w9 ⟨A7, c7, rfl, b9⟩
  have B9 := Lib.hid (B8.out.trans (b9.mono B8.out.size))
  clear b9
  go_wp2_with fail
  refine (num_call 3 (by decide) (by decide) _).mono ?_
  rintro e w10 ⟨A8, c8, rfl, b10⟩
  have B10 := Lib.hid (B9.out.trans (b10.mono B9.out.size))
  clear b10
  go_wp2_with fail
  refine (bin_call _ _ _ _ _ _ _ _).mono ?_
  rintro e w11 ⟨A9, c9, rfl, k9, b11, l9⟩
  have B11 := Lib.hid (B10.out.trans (b11.mono B10.out.size))
  have K9 := Lib.hid k9
  have L9 := Lib.hid l9
  clear b11 k9 l9
  have HSUM : Hid (∀ (A2 : Option Addr) (c2 : Nat), Calls Tryz.prog 20 #[.string ⟨#[43]⟩, nv (B32 ⟨#[42]⟩) A9 2 c9, nv NX A2 0 c2] w11 (Got2 (B32 ⟨#[43]⟩) sumK w11)) := Lib.hid fun A2 c2 => (binary_any ⟨#[43]⟩ (B32 ⟨#[42]⟩) NX (two (L24 2) (L24 3)) .nil A9 A2 c9 c2 w11 L9.out K9.out (Nat.zero_le _) (.inl rfl)).mono fun e w' ⟨A, c, a, b, k, d⟩ => ⟨A, c, a, k, d, b⟩
  go_wp2_with fail
  refine (HSUM.out _ _).mono ?_
  rintro e w12 ⟨A10, c10, rfl, k10, b12, l10⟩
  have B12 := Lib.hid (B11.out.trans (b12.mono B11.out.size))
  have K10 := Lib.hid k10
  have L10 := Lib.hid l10
  clear b12 k10 l10
  have VB := Lib.hid (B12.out.trans ((fb1 w12 (.cells (nc (B32 ⟨#[43]⟩) A10 2 c10) 26)).mono B12.out.size))
  have HPR : Hid (Calls Tryz.prog 24 #[nv (B32 ⟨#[43]⟩) A10 2 c10] (w12.alloc (.cells (nc (B32 ⟨#[43]⟩) A10 2 c10) 26)) fun e w' => ∃ (A : Option Addr) (cap : Nat), e = .returned (nv (pNode 1 ⟨#[]⟩) A 1 cap) ∧ Kids (Lt w'.heap.size) w' A (prK (B32 ⟨#[43]⟩) sumK) ∧ Below w.heap.size w w') := Lib.hid ((printing_any (B32 ⟨#[43]⟩) sumK A10 c10 _ L10.out (kidsV K10.out (fb1 _ _))).mono fun e w' ⟨A, c, a, b, k, d⟩ => ⟨A, c, a, k, VB.out.trans (d.mono VB.out.size)⟩)
  go_wp2_with fail
  refine HPR.out.mono ?_
  rintro e v1 ⟨A11, c11, rfl, k11, hb11⟩
  have HFI : Hid (Calls Tryz.prog 18 #[nv (pNode 1 ⟨#[]⟩) A11 1 c11] v1 fun e w' => ∃ (A : Option Addr) (cap : Nat), e = .returned (nv (pNode 1 ⟨#[]⟩) A 1 cap) ∧ Kids (Lt w'.heap.size) w' A (prK (B32 ⟨#[43]⟩) (two (L24 6) NX)) ∧ Below w.heap.size w w') := Lib.hid (by
    have := file_any (pNode 1 ⟨#[]⟩) (prK (B32 ⟨#[43]⟩) sumK) A11 c11 v1 (glob_below HG.out hb11) k11 numIx_sum.1 numIx_sum.2 (by decide)
    rw [file_sum] at this
    exact this.mono fun e w' ⟨A, c, a, _, k, d⟩ => ⟨A, c, a, k.carry fun b hb => ⟨hb.2, rfl⟩, hb11.trans (d.mono hb11.size)⟩)
  clear k11 hb11 HPR VB
  go_wp2_with fail
  refine HFI.out.mono ?_
  rintro e v2 ⟨A12, c12, rfl, k12, hb12⟩
  have HPD : Hid (Calls Tryz.prog 25 #[nv (pNode 1 ⟨#[]⟩) A12 1 c12] v2 fun e w' => ∃ (A : Option Addr) (cap : Nat), e = .returned (nv (B32 ⟨#[43]⟩) A 2 cap) ∧ Kids (Lt w'.heap.size) w' A (two (L24 6) NX) ∧ Below w.heap.size w w') := Lib.hid ((printed_any (pNode 1 ⟨#[]⟩) (B32 ⟨#[43]⟩) (two (L24 6) NX) A12 c12 v2 k12).mono fun e w' ⟨A, c, a, _, k, d⟩ => ⟨A, c, a, k, hb12.trans (d.mono hb12.size)⟩)
  clear k12 hb12 HFI
  go_wp2_with fail
  refine HPD.out.mono ?_
  rintro e v3 ⟨A13, c13, rfl, k13, hb13⟩
  have K13 := Lib.hid k13
  have B13 := Lib.hid hb13
  clear k13 hb13 HPD
  go_wp2_with fail
  refine (num_call 6 (by decide) (by decide) _).mono ?_
  rintro e v4 ⟨A14, c14, rfl, b14⟩
  have K14 := Lib.hid (kidsV K13.out b14)
  have B14 := Lib.hid (B13.out.trans (b14.mono B13.out.size))
  clear b14
  go_wp2_with fail
  refine (bin_call ⟨#[43]⟩ (L24 6) NX A14 none c14 0 _).mono ?_
  rintro e v5 ⟨A15, c15, rfl, k15, b15, l15⟩
  have K15 := Lib.hid (kidsV K14.out b15)
  have B15 := Lib.hid (B14.out.trans (b15.mono B14.out.size))
  have HEQ : Hid (Calls Tryz.prog 34 #[nv (B32 ⟨#[43]⟩) A13 2 c13, nv (B32 ⟨#[43]⟩) A15 2 c15] v5 fun e w' => e = .returned (.bool true) ∧ Below v5.heap.size v5 w') := Lib.hid (by
    have := equal_any (B32 ⟨#[43]⟩) (two (L24 6) NX) (B32 ⟨#[43]⟩) (two (L24 6) NX) A13 A15 c13 c15 v5 K15.out k15 (by unfold maxLen; decide) (by unfold maxLen; decide)
    rw [eq_sum] at this
    exact this)
  clear k15 b15 l15
  go_wp2_with fail
  refine HEQ.out.mono ?_
  rintro e v6 ⟨rfl, b16⟩
  have B16 := Lib.hid (B15.out.trans (b16.mono B15.out.size))
  clear b16
  go_wp2
  go_ret
  exact ⟨rfl, B16.out⟩

end Go.Proofs.YtnknphchjmnkcaaGreatDoor
