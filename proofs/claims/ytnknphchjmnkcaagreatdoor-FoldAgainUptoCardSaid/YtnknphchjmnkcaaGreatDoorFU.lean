/-
  The walk of the law FoldFile.
-/
import Derived.Test.YtnknphchjmnkcaaGreatDoorFT
import Derived.Deep.RegionHeld3
set_option linter.all false
namespace Go.Proofs.YtnknphchjmnkcaaGreatDoor
open Go.RowKit T T.Fo
theorem cell_bel {V w' : World} {b i : Nat} {v : Value} (h : V.cell? ⟨b, i, none⟩ = some v) (hb : Below V.heap.size V w') : w'.cell? ⟨b, i, none⟩ = some v :=
  (hb.cell (p := ⟨b, i, none⟩) (World.block_lt_of_cell? V _ h)).trans h
def LB2 (b0 b1 : Nat) (h0 : Hd) (A0 : Option Addr) (n0 c0 : Nat) (h1 : Hd) (A1 : Option Addr) (n1 c1 : Nat) (w w' : World) : Prop := w'.cell? ⟨b0, 0, none⟩ = some (.int .i64 h0.kind) ∧ w'.cell? ⟨b0, 1, none⟩ = some (.string h0.text) ∧ w'.cell? ⟨b0, 2, none⟩ = some (.int .i64 h0.num) ∧ w'.cell? ⟨b0, 3, none⟩ = some (.int .i64 h0.pos) ∧ w'.cell? ⟨b0, 4, none⟩ = some (.slice A0 n0 c0) ∧ w'.cell? ⟨b0, 5, none⟩ = some (.int .i64 h0.tk) ∧ w'.cell? ⟨b0, 6, none⟩ = some (.string h0.tn) ∧ w'.cell? ⟨b0, 7, none⟩ = some (.int .i64 h0.ref) ∧ w'.cell? ⟨b0, 8, none⟩ = some (.int .i64 h0.up) ∧ w'.cell? ⟨b1, 0, none⟩ = some (.int .i64 h1.kind) ∧ w'.cell? ⟨b1, 1, none⟩ = some (.string h1.text) ∧ w'.cell? ⟨b1, 2, none⟩ = some (.int .i64 h1.num) ∧ w'.cell? ⟨b1, 3, none⟩ = some (.int .i64 h1.pos) ∧ w'.cell? ⟨b1, 4, none⟩ = some (.slice A1 n1 c1) ∧ w'.cell? ⟨b1, 5, none⟩ = some (.int .i64 h1.tk) ∧ w'.cell? ⟨b1, 6, none⟩ = some (.string h1.tn) ∧ w'.cell? ⟨b1, 7, none⟩ = some (.int .i64 h1.ref) ∧ w'.cell? ⟨b1, 8, none⟩ = some (.int .i64 h1.up) ∧ Below w.heap.size w w'
theorem LB2.keep {b0 b1 : Nat} {h0 : Hd} {A0 : Option Addr} {n0 c0 : Nat} {h1 : Hd} {A1 : Option Addr} {n1 c1 : Nat} {w V w' : World} (h : LB2 b0 b1 h0 A0 n0 c0 h1 A1 n1 c1 w V) (hb : Below V.heap.size V w') : w'.cell? ⟨b0, 0, none⟩ = some (.int .i64 h0.kind) ∧ w'.cell? ⟨b0, 1, none⟩ = some (.string h0.text) ∧ w'.cell? ⟨b0, 2, none⟩ = some (.int .i64 h0.num) ∧ w'.cell? ⟨b0, 3, none⟩ = some (.int .i64 h0.pos) ∧ w'.cell? ⟨b0, 4, none⟩ = some (.slice A0 n0 c0) ∧ w'.cell? ⟨b0, 5, none⟩ = some (.int .i64 h0.tk) ∧ w'.cell? ⟨b0, 6, none⟩ = some (.string h0.tn) ∧ w'.cell? ⟨b0, 7, none⟩ = some (.int .i64 h0.ref) ∧ w'.cell? ⟨b0, 8, none⟩ = some (.int .i64 h0.up) ∧ w'.cell? ⟨b1, 0, none⟩ = some (.int .i64 h1.kind) ∧ w'.cell? ⟨b1, 1, none⟩ = some (.string h1.text) ∧ w'.cell? ⟨b1, 2, none⟩ = some (.int .i64 h1.num) ∧ w'.cell? ⟨b1, 3, none⟩ = some (.int .i64 h1.pos) ∧ w'.cell? ⟨b1, 4, none⟩ = some (.slice A1 n1 c1) ∧ w'.cell? ⟨b1, 5, none⟩ = some (.int .i64 h1.tk) ∧ w'.cell? ⟨b1, 6, none⟩ = some (.string h1.tn) ∧ w'.cell? ⟨b1, 7, none⟩ = some (.int .i64 h1.ref) ∧ w'.cell? ⟨b1, 8, none⟩ = some (.int .i64 h1.up) ∧ Below w.heap.size w w' := by
  obtain ⟨x00, x01, x02, x03, x04, x05, x06, x07, x08, x10, x11, x12, x13, x14, x15, x16, x17, x18, b⟩ := h
  exact ⟨cell_bel x00 hb, cell_bel x01 hb, cell_bel x02 hb, cell_bel x03 hb, cell_bel x04 hb, cell_bel x05 hb, cell_bel x06 hb, cell_bel x07 hb, cell_bel x08 hb, cell_bel x10 hb, cell_bel x11 hb, cell_bel x12 hb, cell_bel x13 hb, cell_bel x14 hb, cell_bel x15 hb, cell_bel x16 hb, cell_bel x17 hb, cell_bel x18 hb, b.trans (hb.mono b.size)⟩
theorem LB2.start {b0 b1 : Nat} {h0 : Hd} {A0 : Option Addr} {n0 c0 : Nat} {h1 : Hd} {A1 : Option Addr} {n1 c1 : Nat} {w V : World} (h : LB2 b0 b1 h0 A0 n0 c0 h1 A1 n1 c1 w V) : V.drew.cell? ⟨b0, 0, none⟩ = some (.int .i64 h0.kind) ∧ V.drew.cell? ⟨b0, 1, none⟩ = some (.string h0.text) ∧ V.drew.cell? ⟨b0, 2, none⟩ = some (.int .i64 h0.num) ∧ V.drew.cell? ⟨b0, 3, none⟩ = some (.int .i64 h0.pos) ∧ V.drew.cell? ⟨b0, 4, none⟩ = some (.slice A0 n0 c0) ∧ V.drew.cell? ⟨b0, 5, none⟩ = some (.int .i64 h0.tk) ∧ V.drew.cell? ⟨b0, 6, none⟩ = some (.string h0.tn) ∧ V.drew.cell? ⟨b0, 7, none⟩ = some (.int .i64 h0.ref) ∧ V.drew.cell? ⟨b0, 8, none⟩ = some (.int .i64 h0.up) ∧ V.drew.cell? ⟨b1, 0, none⟩ = some (.int .i64 h1.kind) ∧ V.drew.cell? ⟨b1, 1, none⟩ = some (.string h1.text) ∧ V.drew.cell? ⟨b1, 2, none⟩ = some (.int .i64 h1.num) ∧ V.drew.cell? ⟨b1, 3, none⟩ = some (.int .i64 h1.pos) ∧ V.drew.cell? ⟨b1, 4, none⟩ = some (.slice A1 n1 c1) ∧ V.drew.cell? ⟨b1, 5, none⟩ = some (.int .i64 h1.tk) ∧ V.drew.cell? ⟨b1, 6, none⟩ = some (.string h1.tn) ∧ V.drew.cell? ⟨b1, 7, none⟩ = some (.int .i64 h1.ref) ∧ V.drew.cell? ⟨b1, 8, none⟩ = some (.int .i64 h1.up) ∧ Below w.heap.size w V.drew := by
  obtain ⟨x00, x01, x02, x03, x04, x05, x06, x07, x08, x10, x11, x12, x13, x14, x15, x16, x17, x18, b⟩ := h
  exact ⟨x00, x01, x02, x03, x04, x05, x06, x07, x08, x10, x11, x12, x13, x14, x15, x16, x17, x18, Below.drew b⟩
theorem LB2.mk {b0 b1 : Nat} {h0 : Hd} {A0 : Option Addr} {n0 c0 : Nat} {h1 : Hd} {A1 : Option Addr} {n1 c1 : Nat} {w V : World} (k0 : Nb V b0 h0 A0 n0 c0) (k1 : Nb V b1 h1 A1 n1 c1) (b : Below w.heap.size w V) : LB2 b0 b1 h0 A0 n0 c0 h1 A1 n1 c1 w V := by
  obtain ⟨x00, x01, x02, x03, x04, x05, x06, x07, x08⟩ := k0.cells
  obtain ⟨x10, x11, x12, x13, x14, x15, x16, x17, x18⟩ := k1.cells
  exact ⟨x00, x01, x02, x03, x04, x05, x06, x07, x08, x10, x11, x12, x13, x14, x15, x16, x17, x18, b⟩

theorem file_yes (h : Hd) (F : Fo) (A : Option Addr) (cap : Nat) (w : World) (hG : Glob w) (hk : Kids (Lt w.heap.size) w A F) (hn : numIx h) (hF : F.AllH numIx) (hc : F.cnt + 1 ≤ 1048576) (hg : ¬ F.cnt + 1 ≤ 250) : Calls Tryz.prog 4 #[nv h A F.len cap] w fun e w' => e = .returned (.bool true) ∧ Below w.heap.size w w' := by
  have H0 := Lib.hid (Nx.start w h A F.len cap)
  have HAW := Lib.hid (awake_any (w.alloc (.cells (nc h A F.len cap) 26)) (glob_below hG H0.out.b))
  obtain ⟨m, hm⟩ : ∃ m, F.cnt + 1 = m := ⟨_, rfl⟩
  have HCN := Lib.hid (cnt_call (h := h) (cap := cap) hk hc hm)
  have hgv : decide ((250 : Int) < (m : Int)) = true := by simp; omega
  obtain ⟨n, hna⟩ : ∃ n, F.len = n := ⟨_, rfl⟩
  rw [hna] at H0 HAW HCN ⊢
  clear hG hk hn hF hc hm hna hg
  go_enter Tryz.func4, Tryz.ntmps4
  go_wp2_with fail
  refine HAW.out.mono ?_
  rintro e w1 ⟨rfl, hb1⟩
  have X1 := Lib.hid (H0.out.keep hb1)
  obtain ⟨a0, a1, a2, a3, a4, a5, a6, a7, a8⟩ := nb9 X1.out.n
  clear hb1
  go_wp2_with fail
  refine (HCN.out _ X1.out.b).mono ?_
  rintro e w2 ⟨rfl, hb2⟩
  have X2 := Lib.hid (X1.out.keep hb2)
  clear a0 a1 a2 a3 a4 a5 a6 a7 a8
  obtain ⟨a0, a1, a2, a3, a4, a5, a6, a7, a8⟩ := nb9 X2.out.n
  clear hb2
  go_wp2
  go_ret
  exact ⟨rfl, X2.out.b⟩

set_option maxRecDepth 100000 in
set_option maxHeartbeats 8000000 in
theorem file_no (h : Hd) (F : Fo) (A : Option Addr) (cap : Nat) (w : World) (hG : Glob w) (hk : Kids (Lt w.heap.size) w A F) (hn : numIx h) (hF : F.AllH numIx) (hc : F.cnt + 1 ≤ 1048576) (hg : F.cnt + 1 ≤ 250) : Calls Tryz.prog 4 #[nv h A F.len cap] w fun e w' => e = .returned (.bool true) ∧ Below w.heap.size w w' := by
  have H0 := Lib.hid (Nx.start w h A F.len cap)
  have HAW := Lib.hid (awake_any (w.alloc (.cells (nc h A F.len cap) 26)) (glob_below hG H0.out.b))
  obtain ⟨m, hm⟩ : ∃ m, F.cnt + 1 = m := ⟨_, rfl⟩
  have HCN := Lib.hid (cnt_call (h := h) (cap := cap) hk hc hm)
  have hgv : decide ((250 : Int) < (m : Int)) = false := by simp; omega
  have HCP := Lib.hid (copy_call (h := h) (cap := cap) hk hc)
  have HF1 : Hid (∀ W V A1 c1, Below w.heap.size w W → (Kids (Lt W.heap.size) W A1 F ∧ F.len ≤ c1) → Below W.heap.size W V → Calls Tryz.prog 18 #[nv h A1 F.len c1] V fun e w' => ∃ A c, e = .returned (nv (fileT h F).1 A (fileT h F).2.len c) ∧ Kids (Lt w'.heap.size) w' A (fileT h F).2 ∧ Below V.heap.size V w') := Lib.hid fun W V A1 c1 hW hk1 hV => (file_any h F A1 c1 V (glob_below hG (hW.trans (hV.mono hW.size))) (kidsV hk1.1 hV) hn hF hc).mono fun e w' ⟨A, c, a, _, k, d⟩ => ⟨A, c, a, k.carry fun b hb => ⟨hb.2, rfl⟩, d⟩
  have HF2 : Hid (∀ V, Below w.heap.size w V → Calls Tryz.prog 19 #[nv h A F.len cap] V fun e w' => ∃ A c, e = .returned (nv (fileT h F).1 A (fileT h F).2.len c) ∧ Kids (Lt w'.heap.size) w' A (fileT h F).2 ∧ Below V.heap.size V w') := Lib.hid fun V hV => (rfile_any h F A cap V (kidsV hk hV) hn hF hc).mono fun e w' ⟨A, c, a, _, k, d⟩ => ⟨A, c, a, k.carry fun b hb => ⟨hb.2, rfl⟩, d⟩
  have hfc : (fileT h F).2.cnt ≤ maxLen := by
    unfold fileT
    by_cases v : validT nm h F = true
    · rw [if_pos v, (valid_fo v (rg_of hn) (rgs_of hF)).1]
      have := (valid_fo v (rg_of hn) (rgs_of hF)).2.2
      show (foF F).cnt ≤ maxLen
      unfold maxLen; omega
    · rw [if_neg v]; exact Nat.zero_le _
  have HSM : Hid (∀ V A A' c c', Kids (Lt V.heap.size) V A (fileT h F).2 → Kids (Lt V.heap.size) V A' (fileT h F).2 → Calls Tryz.prog 17 #[nv (fileT h F).1 A (fileT h F).2.len c, nv (fileT h F).1 A' (fileT h F).2.len c'] V fun e w' => e = .returned (.bool true) ∧ Below V.heap.size V w') := Lib.hid fun V A A' c c' hk hk' => (same_any _ _ _ _ A A' c c' V hk hk' hfc hfc).mono fun e w' hq => ⟨by rw [hq.1]; unfold sameT; simp, hq.2⟩
  have HSO : Hid (∀ W V A1 c1, Below w.heap.size w W → (Kids (Lt W.heap.size) W A1 F ∧ F.len ≤ c1) → Below W.heap.size W V → Calls Tryz.prog 17 #[nv h A1 F.len c1, nv h A F.len cap] V fun e w' => e = .returned (.bool true) ∧ Below V.heap.size V w') := Lib.hid fun W V A1 c1 hW hk1 hV => (same_any h F h F A1 A c1 cap V (kidsV hk1.1 hV) (kidsV hk (hW.trans (hV.mono hW.size))) (by unfold maxLen; omega) (by unfold maxLen; omega)).mono fun e w' hq => ⟨by rw [hq.1]; unfold sameT; simp, hq.2⟩
  obtain ⟨fh, hfh⟩ : ∃ x, (fileT h F).1 = x := ⟨_, rfl⟩
  obtain ⟨fk, hfk⟩ : ∃ x, (fileT h F).2 = x := ⟨_, rfl⟩
  rw [hfh, hfk] at HF1 HF2 HSM
  obtain ⟨n, hna⟩ : ∃ n, F.len = n := ⟨_, rfl⟩
  obtain ⟨n', hnb⟩ : ∃ n, fk.len = n := ⟨_, rfl⟩
  rw [hna] at H0 HAW HCN HCP HF1 HF2 HSO ⊢
  rw [hnb] at HF1 HF2 HSM
  clear hG hk hn hF hc hm hna hg hfc hfh hfk hnb
  go_enter Tryz.func4, Tryz.ntmps4
  go_wp2_with fail
  refine HAW.out.mono ?_
  rintro e w1 ⟨rfl, hb1⟩
  have X1 := Lib.hid (H0.out.keep hb1)
  obtain ⟨a0, a1, a2, a3, a4, a5, a6, a7, a8⟩ := nb9 X1.out.n
  clear hb1
  go_wp2_with fail
  refine (HCN.out _ X1.out.b).mono ?_
  rintro e w2 ⟨rfl, hb2⟩
  have X2 := Lib.hid (X1.out.keep hb2)
  clear a0 a1 a2 a3 a4 a5 a6 a7 a8
  obtain ⟨a0, a1, a2, a3, a4, a5, a6, a7, a8⟩ := nb9 X2.out.n
  clear hb2
  go_wp2_with fail
  refine (HCP.out _ X2.out.b).mono ?_
  rintro e w3 ⟨A1, c1, rfl, hk3, hb3⟩
  have X3 := Lib.hid (X2.out.keep hb3)
  clear a0 a1 a2 a3 a4 a5 a6 a7 a8
  obtain ⟨a0, a1, a2, a3, a4, a5, a6, a7, a8⟩ := nb9 X3.out.n
  have HK3 := Lib.hid hk3
  clear hk3
  clear hb3
  have B45 : Below w3.heap.size w3 (w3.alloc (.cells (nc h A1 n c1) 26)) := fb1 _ _
  have HS := Lib.hid (LB2.mk (b0 := w.heap.size) (b1 := w3.heap.size) (h0 := h) (A0 := A) (n0 := n) (c0 := cap) (h1 := h) (A1 := A1) (n1 := n) (c1 := c1) (w := w3) (V := w3.alloc (.cells (nc h A1 n c1) 26)) ((X3.out.keep B45).n) (heap_alloc_new _ _) B45)
  have HF1' := Lib.hid fun V hV => HF1.out w3 V A1 c1 X3.out.b HK3.out hV
  have HW : Hid (∀ V, Below w3.heap.size w3 V → Below w.heap.size w V) := Lib.hid fun V hV => X3.out.b.trans (hV.mono X3.out.b.size)
  have HSO' := Lib.hid fun V hV => HSO.out w3 V A1 c1 X3.out.b HK3.out hV
  clear B45 a0 a1 a2 a3 a4 a5 a6 a7 a8 HF1 HSO
  go_wp2
  go_region_held3 (fun w' => w'.cell? ⟨w.heap.size, 0, none⟩ = some (.int .i64 h.kind) ∧ w'.cell? ⟨w.heap.size, 1, none⟩ = some (.string h.text) ∧ w'.cell? ⟨w.heap.size, 2, none⟩ = some (.int .i64 h.num) ∧ w'.cell? ⟨w.heap.size, 3, none⟩ = some (.int .i64 h.pos) ∧ w'.cell? ⟨w.heap.size, 4, none⟩ = some (.slice A n cap) ∧ w'.cell? ⟨w.heap.size, 5, none⟩ = some (.int .i64 h.tk) ∧ w'.cell? ⟨w.heap.size, 6, none⟩ = some (.string h.tn) ∧ w'.cell? ⟨w.heap.size, 7, none⟩ = some (.int .i64 h.ref) ∧ w'.cell? ⟨w.heap.size, 8, none⟩ = some (.int .i64 h.up) ∧ w'.cell? ⟨w3.heap.size, 0, none⟩ = some (.int .i64 h.kind) ∧ w'.cell? ⟨w3.heap.size, 1, none⟩ = some (.string h.text) ∧ w'.cell? ⟨w3.heap.size, 2, none⟩ = some (.int .i64 h.num) ∧ w'.cell? ⟨w3.heap.size, 3, none⟩ = some (.int .i64 h.pos) ∧ w'.cell? ⟨w3.heap.size, 4, none⟩ = some (.slice A1 n c1) ∧ w'.cell? ⟨w3.heap.size, 5, none⟩ = some (.int .i64 h.tk) ∧ w'.cell? ⟨w3.heap.size, 6, none⟩ = some (.string h.tn) ∧ w'.cell? ⟨w3.heap.size, 7, none⟩ = some (.int .i64 h.ref) ∧ w'.cell? ⟨w3.heap.size, 8, none⟩ = some (.int .i64 h.up) ∧ Below w3.heap.size w3 w')
    (first
      | exact HS.out.start
      | exact LB2.keep (by assumption) hbb)
    (first
      | (go_at_call 18; (with_reducible refine (HF1'.out _ ?_).mono ?_); (go_split_ands; assumption); rintro e w' ⟨A8, c8, rfl, k8, hbb⟩)
      | (go_at_call 19; (with_reducible refine (HF2.out _ (HW.out _ ?_)).mono ?_); (go_split_ands; assumption); rintro e w' ⟨A9, c9, rfl, k9, hbb⟩)
      | (go_at_call 17; (with_reducible refine (HSO'.out _ ?_).mono ?_); (go_split_ands; assumption); rintro e w' ⟨rfl, hbb⟩)
      | (go_at_call 17; (with_reducible refine (HSM.out _ _ _ _ _ (kidsV k8 hbb) k9).mono ?_); rintro e w' ⟨rfl, hbb⟩)
      | (go_at_call 17; (with_reducible refine (HSM.out _ _ _ _ _ k8 (kidsV k9 hbb)).mono ?_); rintro e w' ⟨rfl, hbb⟩))
  all_goals
    have HBE : Hid (Below w3.heap.size w3 w') := Lib.hid (by go_split_ands; assumption)
    go_wp2
    go_ret
    exact ⟨rfl, HW.out _ HBE.out⟩

theorem file_law (h : Hd) (F : Fo) (A : Option Addr) (cap : Nat) (w : World) (hG : Glob w) (hk : Kids (Lt w.heap.size) w A F) (hn : numIx h) (hF : F.AllH numIx) (hc : F.cnt + 1 ≤ 1048576) : Calls Tryz.prog 4 #[nv h A F.len cap] w fun e w' => e = .returned (.bool true) ∧ Below w.heap.size w w' := by
  by_cases g : F.cnt + 1 ≤ 250
  · exact file_no h F A cap w hG hk hn hF hc g
  · exact file_yes h F A cap w hG hk hn hF hc g

end Go.Proofs.YtnknphchjmnkcaaGreatDoor
