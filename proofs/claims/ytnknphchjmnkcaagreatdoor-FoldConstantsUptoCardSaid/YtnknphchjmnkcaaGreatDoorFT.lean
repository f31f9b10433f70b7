/-
  The walks of the laws FoldValue and FoldKeepsValue.
-/
import Derived.Test.YtnknphchjmnkcaaGreatDoorFS
import Derived.Test.YtnknphchjmnkcaaGreatDoorCD
set_option linter.all false
namespace Go.Proofs.YtnknphchjmnkcaaGreatDoor
open Go.RowKit T T.Fo
/-- Count's answer at every later world; whether it is above a bound. -/
theorem cnt_call {h : Hd} {F : Fo} {A : Option Addr} {cap : Nat} {w : World} (hk : Kids (Lt w.heap.size) w A F) (hc : F.cnt + 1 ≤ 1048576) {m : Nat} (hm : F.cnt + 1 = m) : ∀ V, Below w.heap.size w V → Calls Tryz.prog 13 #[nv h A F.len cap] V fun e w' => e = .returned (.int .i64 (m : Int)) ∧ Below V.heap.size V w' := fun V hV => count_any h F A cap V m (kidsV hk hV) hm (by unfold maxLen; omega)
theorem copy_call {h : Hd} {F : Fo} {A : Option Addr} {cap : Nat} {w : World} (hk : Kids (Lt w.heap.size) w A F) (hc : F.cnt + 1 ≤ 1048576) : ∀ V, Below w.heap.size w V → Calls Tryz.prog 15 #[nv h A F.len cap] V fun e w' => ∃ A c, e = .returned (nv h A F.len c) ∧ (Kids (Lt w'.heap.size) w' A F ∧ F.len ≤ c) ∧ Below V.heap.size V w' := fun V hV => (copy_any h F A cap V (kidsV hk hV) hc).mono fun e w' hq => by
  obtain ⟨A, c, he, hl, hk, hb⟩ := hq
  exact ⟨A, c, he, ⟨hk.carry fun b hb => ⟨hb.2, rfl⟩, hl⟩, hb⟩
/-- A box of a node, its nine cells. -/
theorem nb9 {W : World} {b n cap : Nat} {h : Hd} {A : Option Addr} (H : W.heap[b]? = some (.cells (nc h A n cap) 26 (0, 0))) : W.cell? ⟨b, 0, none⟩ = some (.int .i64 h.kind) ∧ W.cell? ⟨b, 1, none⟩ = some (.string h.text) ∧ W.cell? ⟨b, 2, none⟩ = some (.int .i64 h.num) ∧ W.cell? ⟨b, 3, none⟩ = some (.int .i64 h.pos) ∧ W.cell? ⟨b, 4, none⟩ = some (.slice A n cap) ∧ W.cell? ⟨b, 5, none⟩ = some (.int .i64 h.tk) ∧ W.cell? ⟨b, 6, none⟩ = some (.string h.tn) ∧ W.cell? ⟨b, 7, none⟩ = some (.int .i64 h.ref) ∧ W.cell? ⟨b, 8, none⟩ = some (.int .i64 h.up) := by
  simp [World.cell?, H]
/-- The node's box stands. -/
structure Nx (w : World) (h : Hd) (A : Option Addr) (n cap : Nat) (V : World) : Prop where
  n : V.heap[w.heap.size]? = some (.cells (nc h A n cap) 26 (0, 0))
  z : w.heap.size < V.heap.size
  b : Below w.heap.size w V
theorem Nx.start (w : World) (h : Hd) (A : Option Addr) (n cap : Nat) : Nx w h A n cap (w.alloc (.cells (nc h A n cap) 26)) := ⟨heap_alloc_new _ _, by simp, fb1 _ _⟩
theorem Nx.keep {w : World} {h : Hd} {A : Option Addr} {n cap : Nat} {V V' : World} (H : Nx w h A n cap V) (hb : Below V.heap.size V V') : Nx w h A n cap V' := ⟨(hb.block _ H.z).trans H.n, Nat.lt_of_lt_of_le H.z hb.size, H.b.trans (hb.mono (Nat.le_of_lt H.z))⟩
/-- A file that prints an expression is folded as the expression. -/
theorem pn_fo (k : Int) (t : ByteArray) (K : Fo) (h0 : k ≠ 18) (h1 : k ≠ 24) (h2 : k ≠ 25) (h3 : k ≠ 31) (h4 : k ≠ 32) : foT (pNode k t) K = (pNode k t, foF K) := by
  rw [kd (h := pNode k t) h0 h1 h2 h3 h4]; rfl
theorem pn_cons (k : Int) (t : ByteArray) (K r : Fo) (h0 : k ≠ 18) (h1 : k ≠ 24) (h2 : k ≠ 25) (h3 : k ≠ 31) (h4 : k ≠ 32) : foF (.cons (pNode k t) K r) = .cons (pNode k t) (foF K) (foF r) := by
  rw [foF_cons, pn_fo k t K h0 h1 h2 h3 h4]
theorem pr_fo (h : Hd) (k : Fo) : foT (pNode 1 ⟨#[]⟩) (prK h k) = (pNode 1 ⟨#[]⟩, prK (foT h k).1 (foT h k).2) := by
  rw [pn_fo 1 _ _ (by decide) (by decide) (by decide) (by decide) (by decide)]
  unfold prK
  rw [pn_cons 4 _ _ _ (by decide) (by decide) (by decide) (by decide) (by decide), pn_cons 5 _ _ _ (by decide) (by decide) (by decide) (by decide) (by decide), pn_cons 9 _ _ _ (by decide) (by decide) (by decide) (by decide) (by decide), pn_cons 10 _ _ _ (by decide) (by decide) (by decide) (by decide) (by decide), pn_cons 21 _ _ _ (by decide) (by decide) (by decide) (by decide) (by decide), foF_cons]
  rfl
theorem pr_ok {h : Hd} {k : Fo} (H : validT nmv (pNode 1 ⟨#[]⟩) (prK h k) = true) : okT nmv h k = true := by
  unfold validT at H
  rw [Bool.and_eq_true, permT_dep, Bool.and_eq_true] at H
  have a := (okT_parts H.2.1).2.2.2
  unfold prK at a
  rw [okF_cons, Bool.and_eq_true] at a
  have b := (okT_parts a.1).2.2.2
  rw [okF_cons, okF_cons, okF_cons, Bool.and_eq_true, Bool.and_eq_true, Bool.and_eq_true] at b
  have c := (okT_parts b.2.2.1).2.2.2
  rw [okF_cons, Bool.and_eq_true] at c
  have d := (okT_parts c.1).2.2.2
  rw [okF_cons, Bool.and_eq_true] at d
  exact d.1
theorem pr_numIx {h : Hd} {k : Fo} (hn : numIx h) (hF : k.AllH numIx) : numIx (pNode 1 ⟨#[]⟩) ∧ (prK h k).AllH numIx := by
  have p : ∀ n t, t.size ≤ maxLen → numIx (pNode n t) := fun n t ht => ⟨by show (Lit.int .i64 0).wf = true; decide, ht⟩
  exact ⟨p _ _ (by decide), p _ _ (by decide), ⟨p _ _ (by decide), trivial, p _ _ (by decide), trivial, p _ _ (by decide), ⟨p _ _ (by decide), ⟨hn, hF, trivial⟩, trivial⟩, trivial⟩, trivial⟩
theorem pr_cnt (h : Hd) (k : Fo) : (prK h k).cnt = k.cnt + 6 := by
  unfold prK; simp only [Fo.cnt]; omega
set_option maxRecDepth 100000

theorem value_yes (h : Hd) (F : Fo) (A : Option Addr) (cap : Nat) (w : World) (hG : Glob w) (hk : Kids (Lt w.heap.size) w A F) (hn : numIx h) (hF : F.AllH numIx) (hc : F.cnt + 1 ≤ 1048576) (hg : ¬ F.cnt + 1 ≤ 200) : Calls Tryz.prog 3 #[nv h A F.len cap] w fun e w' => e = .returned (.bool true) ∧ Below w.heap.size w w' := by
  have H0 := Lib.hid (Nx.start w h A F.len cap)
  have HAW := Lib.hid (awake_any (w.alloc (.cells (nc h A F.len cap) 26)) (glob_below hG H0.out.b))
  obtain ⟨m, hm⟩ : ∃ m, F.cnt + 1 = m := ⟨_, rfl⟩
  have HCN := Lib.hid (cnt_call (h := h) (cap := cap) hk hc hm)
  have hgv : decide ((200 : Int) < (m : Int)) = true := by simp; omega
  obtain ⟨n, hna⟩ : ∃ n, F.len = n := ⟨_, rfl⟩
  rw [hna] at H0 HAW HCN ⊢
  clear hG hk hn hF hc hm hna hg
  go_enter Tryz.func3, Tryz.ntmps3
  go_wp2_with fail
  refine HAW.out.mono ?_
  rintro e w1 ⟨rfl, hb1⟩
  have X1 := Lib.hid (H0.out.keep hb1)
  obtain ⟨a0, a1, a2, a3, a4, a5, a6, a7, a8⟩ := nb9 X1.out.n
  clear hb1
  go_wp2_with fail
  refine (HCN.out _ X1.out.b).mono ?_
  rintro e w2 ⟨rfl, hb2⟩
  have X2 := Lib.hid (X1.out.keep hb2)
  clear a0 a1 a2 a3 a4 a5 a6 a7 a8
  obtain ⟨a0, a1, a2, a3, a4, a5, a6, a7, a8⟩ := nb9 X2.out.n
  clear hb2
  go_wp2
  go_ret
  exact ⟨rfl, X2.out.b⟩

set_option maxHeartbeats 2000000 in
theorem value_no (h : Hd) (F : Fo) (A : Option Addr) (cap : Nat) (w : World) (hG : Glob w) (hk : Kids (Lt w.heap.size) w A F) (hn : numIx h) (hF : F.AllH numIx) (hc : F.cnt + 1 ≤ 1048576) (hg : F.cnt + 1 ≤ 200) : Calls Tryz.prog 3 #[nv h A F.len cap] w fun e w' => e = .returned (.bool true) ∧ Below w.heap.size w w' := by
  have H0 := Lib.hid (Nx.start w h A F.len cap)
  have HAW := Lib.hid (awake_any (w.alloc (.cells (nc h A F.len cap) 26)) (glob_below hG H0.out.b))
  obtain ⟨m, hm⟩ : ∃ m, F.cnt + 1 = m := ⟨_, rfl⟩
  have HCN := Lib.hid (cnt_call (h := h) (cap := cap) hk hc hm)
  have hgv : decide ((200 : Int) < (m : Int)) = false := by simp; omega
  have HCP := Lib.hid (copy_call (h := h) (cap := cap) hk hc)
  obtain ⟨v, hv⟩ : ∃ v, (evT h F).v = v := ⟨_, rfl⟩
  obtain ⟨b, hb⟩ : ∃ b, ((evT h F).k != 0) = b := ⟨_, rfl⟩
  have HV1 : Hid (∀ V A1 c1, (Kids (Lt V.heap.size) V A1 F ∧ F.len ≤ c1) → Calls Tryz.prog 14 #[nv h A1 F.len c1] V (RetV v b V)) := Lib.hid fun V A1 c1 hk1 => by
    have := value_any h F A1 c1 V hk1.1 (by have := dep_le F; omega)
    rwa [hv, hb] at this
  have HV2 : Hid (∀ V, Below w.heap.size w V → Calls Tryz.prog 16 #[nv h A F.len cap] V (RetV v b V)) := Lib.hid fun V hV => by
    have := rvalue_any h F A cap V (kidsV hk hV) ⟨hn, hF, by omega⟩
    rwa [hv, hb] at this
  obtain ⟨n, hna⟩ : ∃ n, F.len = n := ⟨_, rfl⟩
  rw [hna] at H0 HAW HCN HCP HV1 HV2 ⊢
  have evv : (v == v) = true := by simp
  have ebb : (b == b) = true := by simp
  clear hG hk hn hF hc hm hna hg hv hb
  go_enter Tryz.func3, Tryz.ntmps3
  go_wp2_with fail
  refine HAW.out.mono ?_
  rintro e w1 ⟨rfl, hb1⟩
  have X1 := Lib.hid (H0.out.keep hb1)
  obtain ⟨a0, a1, a2, a3, a4, a5, a6, a7, a8⟩ := nb9 X1.out.n
  clear hb1
  go_wp2_with fail
  refine (HCN.out _ X1.out.b).mono ?_
  rintro e w2 ⟨rfl, hb2⟩
  have X2 := Lib.hid (X1.out.keep hb2)
  clear a0 a1 a2 a3 a4 a5 a6 a7 a8
  obtain ⟨a0, a1, a2, a3, a4, a5, a6, a7, a8⟩ := nb9 X2.out.n
  clear hb2
  go_wp2_with fail
  refine (HCP.out _ X2.out.b).mono ?_
  rintro e w3 ⟨A1, c1, rfl, hk3, hb3⟩
  have X3 := Lib.hid (X2.out.keep hb3)
  clear a0 a1 a2 a3 a4 a5 a6 a7 a8
  obtain ⟨a0, a1, a2, a3, a4, a5, a6, a7, a8⟩ := nb9 X3.out.n
  have HK3 := Lib.hid hk3
  clear hk3
  clear hb3
  go_wp2_with fail
  refine (HV1.out _ _ _ HK3.out).mono ?_
  rintro e w4 ⟨rfl, hb4⟩
  have X4 := Lib.hid (X3.out.keep hb4)
  clear a0 a1 a2 a3 a4 a5 a6 a7 a8
  obtain ⟨a0, a1, a2, a3, a4, a5, a6, a7, a8⟩ := nb9 X4.out.n
  clear hb4
  go_wp2_with fail
  refine (HV2.out _ X4.out.b).mono ?_
  rintro e w5 ⟨rfl, hb5⟩
  have X5 := Lib.hid (X4.out.keep hb5)
  clear a0 a1 a2 a3 a4 a5 a6 a7 a8
  obtain ⟨a0, a1, a2, a3, a4, a5, a6, a7, a8⟩ := nb9 X5.out.n
  clear hb5
  go_wp2
  go_ret
  exact ⟨rfl, X5.out.b⟩

theorem value_law (h : Hd) (F : Fo) (A : Option Addr) (cap : Nat) (w : World) (hG : Glob w) (hk : Kids (Lt w.heap.size) w A F) (hn : numIx h) (hF : F.AllH numIx) (hc : F.cnt + 1 ≤ 1048576) : Calls Tryz.prog 3 #[nv h A F.len cap] w fun e w' => e = .returned (.bool true) ∧ Below w.heap.size w w' := by
  by_cases g : F.cnt + 1 ≤ 200
  · exact value_no h F A cap w hG hk hn hF hc g
  · exact value_yes h F A cap w hG hk hn hF hc g

theorem keeps_yes (h : Hd) (F : Fo) (A : Option Addr) (cap : Nat) (w : World) (hG : Glob w) (hk : Kids (Lt w.heap.size) w A F) (hn : numIx h) (hF : F.AllH numIx) (hc : F.cnt + 1 ≤ 1048576) (hg : ¬ F.cnt + 1 ≤ 100) : Calls Tryz.prog 8 #[nv h A F.len cap] w fun e w' => e = .returned (.bool true) ∧ Below w.heap.size w w' := by
  have H0 := Lib.hid (Nx.start w h A F.len cap)
  have HAW := Lib.hid (awake_any (w.alloc (.cells (nc h A F.len cap) 26)) (glob_below hG H0.out.b))
  obtain ⟨m, hm⟩ : ∃ m, F.cnt + 1 = m := ⟨_, rfl⟩
  have HCN := Lib.hid (cnt_call (h := h) (cap := cap) hk hc hm)
  have hgv : decide ((100 : Int) < (m : Int)) = true := by simp; omega
  obtain ⟨n, hna⟩ : ∃ n, F.len = n := ⟨_, rfl⟩
  rw [hna] at H0 HAW HCN ⊢
  clear hG hk hn hF hc hm hna hg
  go_enter Tryz.func8, Tryz.ntmps8
  go_wp2_with fail
  refine HAW.out.mono ?_
  rintro e w1 ⟨rfl, hb1⟩
  have X1 := Lib.hid (H0.out.keep hb1)
  obtain ⟨a0, a1, a2, a3, a4, a5, a6, a7, a8⟩ := nb9 X1.out.n
  clear hb1
  go_wp2_with fail
  refine (HCN.out _ X1.out.b).mono ?_
  rintro e w2 ⟨rfl, hb2⟩
  have X2 := Lib.hid (X1.out.keep hb2)
  clear a0 a1 a2 a3 a4 a5 a6 a7 a8
  obtain ⟨a0, a1, a2, a3, a4, a5, a6, a7, a8⟩ := nb9 X2.out.n
  clear hb2
  go_wp2
  go_ret
  exact ⟨rfl, X2.out.b⟩

set_option maxHeartbeats 2000000 in
theorem keeps_inv (h : Hd) (F : Fo) (A : Option Addr) (cap : Nat) (w : World) (hG : Glob w) (hk : Kids (Lt w.heap.size) w A F) (hn : numIx h) (hF : F.AllH numIx) (hc : F.cnt + 1 ≤ 1048576) (hcap : F.len ≤ cap) (hg : F.cnt + 1 ≤ 100) (hvd : validT nmv (pNode 1 ⟨#[]⟩) (prK h F) = false) : Calls Tryz.prog 8 #[nv h A F.len cap] w fun e w' => e = .returned (.bool true) ∧ Below w.heap.size w w' := by
  have H0 := Lib.hid (Nx.start w h A F.len cap)
  have HAW := Lib.hid (awake_any (w.alloc (.cells (nc h A F.len cap) 26)) (glob_below hG H0.out.b))
  obtain ⟨m, hm⟩ : ∃ m, F.cnt + 1 = m := ⟨_, rfl⟩
  have HCN := Lib.hid (cnt_call (h := h) (cap := cap) hk hc hm)
  have hgv : decide ((100 : Int) < (m : Int)) = false := by simp; omega
  have HPR : Hid (∀ V, Below w.heap.size w V → Calls Tryz.prog 24 #[nv h A F.len cap] V fun e w' => ∃ A c, e = .returned (nv (pNode 1 ⟨#[]⟩) A 1 c) ∧ Kids (Lt w'.heap.size) w' A (prK h F) ∧ Below V.heap.size V w') := Lib.hid fun V hV => (printing_any h F A cap V hcap (kidsV hk hV)).mono fun e w' ⟨A, c, a, _, k, d⟩ => ⟨A, c, a, k, d⟩
  have hnp := pr_numIx hn hF
  have hcp : (prK h F).cnt + 1 ≤ 1048576 := by rw [pr_cnt]; omega
  have HVD : Hid (∀ V A1 c1, Kids (Lt V.heap.size) V A1 (prK h F) → Calls Tryz.prog 22 #[nv (pNode 1 ⟨#[]⟩) A1 1 c1] V fun e w' => e = .returned (.bool false) ∧ Below V.heap.size V w') := Lib.hid fun V A1 c1 hk1 => by
    have := rvalid_any (pNode 1 ⟨#[]⟩) (prK h F) A1 c1 V ⟨hnp.1, hnp.2, by omega⟩ hk1
    rw [hvd] at this
    exact this
  obtain ⟨n, hna⟩ : ∃ n, F.len = n := ⟨_, rfl⟩
  rw [hna] at H0 HAW HCN HPR ⊢
  clear hG hk hn hF hc hm hna hg hnp hcp hcap hvd
  go_enter Tryz.func8, Tryz.ntmps8
  go_wp2_with fail
  refine HAW.out.mono ?_
  rintro e w1 ⟨rfl, hb1⟩
  have X1 := Lib.hid (H0.out.keep hb1)
  obtain ⟨a0, a1, a2, a3, a4, a5, a6, a7, a8⟩ := nb9 X1.out.n
  clear hb1
  go_wp2_with fail
  refine (HCN.out _ X1.out.b).mono ?_
  rintro e w2 ⟨rfl, hb2⟩
  have X2 := Lib.hid (X1.out.keep hb2)
  clear a0 a1 a2 a3 a4 a5 a6 a7 a8
  obtain ⟨a0, a1, a2, a3, a4, a5, a6, a7, a8⟩ := nb9 X2.out.n
  clear hb2
  go_wp2_with fail
  refine (HPR.out _ X2.out.b).mono ?_
  rintro e w3 ⟨A1, c1, rfl, hk3, hb3⟩
  have X3 := Lib.hid (X2.out.keep hb3)
  clear a0 a1 a2 a3 a4 a5 a6 a7 a8
  obtain ⟨a0, a1, a2, a3, a4, a5, a6, a7, a8⟩ := nb9 X3.out.n
  have HK3 := Lib.hid hk3
  clear hk3
  clear hb3
  go_wp2_with fail
  refine (HVD.out _ _ _ HK3.out).mono ?_
  rintro e w4 ⟨rfl, hb4⟩
  have X4 := Lib.hid (X3.out.keep hb4)
  clear a0 a1 a2 a3 a4 a5 a6 a7 a8
  obtain ⟨a0, a1, a2, a3, a4, a5, a6, a7, a8⟩ := nb9 X4.out.n
  clear hb4
  go_wp2
  go_ret
  exact ⟨rfl, X4.out.b⟩

set_option maxHeartbeats 4000000 in
theorem keeps_val (h : Hd) (F : Fo) (A : Option Addr) (cap : Nat) (w : World) (hG : Glob w) (hk : Kids (Lt w.heap.size) w A F) (hn : numIx h) (hF : F.AllH numIx) (hc : F.cnt + 1 ≤ 1048576) (hcap : F.len ≤ cap) (hg : F.cnt + 1 ≤ 100) (hvd : validT nmv (pNode 1 ⟨#[]⟩) (prK h F) = true) : Calls Tryz.prog 8 #[nv h A F.len cap] w fun e w' => e = .returned (.bool true) ∧ Below w.heap.size w w' := by
  have H0 := Lib.hid (Nx.start w h A F.len cap)
  have HAW := Lib.hid (awake_any (w.alloc (.cells (nc h A F.len cap) 26)) (glob_below hG H0.out.b))
  obtain ⟨m, hm⟩ : ∃ m, F.cnt + 1 = m := ⟨_, rfl⟩
  have HCN := Lib.hid (cnt_call (h := h) (cap := cap) hk hc hm)
  have hgv : decide ((100 : Int) < (m : Int)) = false := by simp; omega
  have HPR : Hid (∀ V, Below w.heap.size w V → Calls Tryz.prog 24 #[nv h A F.len cap] V fun e w' => ∃ A c, e = .returned (nv (pNode 1 ⟨#[]⟩) A 1 c) ∧ Kids (Lt w'.heap.size) w' A (prK h F) ∧ Below V.heap.size V w') := Lib.hid fun V hV => (printing_any h F A cap V hcap (kidsV hk hV)).mono fun e w' ⟨A, c, a, _, k, d⟩ => ⟨A, c, a, k, d⟩
  have hnp := pr_numIx hn hF
  have hcp : (prK h F).cnt + 1 ≤ 1048576 := by rw [pr_cnt]; omega
  have HVD : Hid (∀ V A1 c1, Kids (Lt V.heap.size) V A1 (prK h F) → Calls Tryz.prog 22 #[nv (pNode 1 ⟨#[]⟩) A1 1 c1] V fun e w' => e = .returned (.bool true) ∧ Below V.heap.size V w') := Lib.hid fun V A1 c1 hk1 => by
    have := rvalid_any (pNode 1 ⟨#[]⟩) (prK h F) A1 c1 V ⟨hnp.1, hnp.2, by omega⟩ hk1
    rw [hvd] at this
    exact this
  have hok := pr_ok hvd
  have hr := rg_of hn
  have hA := rgs_of hF
  have hfo : fileT (pNode 1 ⟨#[]⟩) (prK h F) = (pNode 1 ⟨#[]⟩, prK (foT h F).1 (foT h F).2) := by
    unfold fileT
    rw [nm_nmv', hvd, if_pos rfl, pr_fo]
  have hev : evT (foT h F).1 (foT h F).2 = evT h F := evT_fo hok hr hA
  have hdp : (foT h F).2.dep + 1 ≤ 65536 := by
    have := (fo_small (.cons h F .nil) (by rw [okF_cons, hok]; rfl) ⟨hr, hA, trivial⟩).2
    rw [foF_cons] at this
    simp only [Fo.dep] at this
    have := dep_le F
    omega
  have HFI : Hid (∀ V A1 c1, Below w.heap.size w V → Kids (Lt V.heap.size) V A1 (prK h F) → Calls Tryz.prog 18 #[nv (pNode 1 ⟨#[]⟩) A1 1 c1] V fun e w' => ∃ A c, e = .returned (nv (pNode 1 ⟨#[]⟩) A 1 c) ∧ Kids (Lt w'.heap.size) w' A (prK (foT h F).1 (foT h F).2) ∧ Below V.heap.size V w') := Lib.hid fun V A1 c1 hV hk1 => by
    have := file_any (pNode 1 ⟨#[]⟩) (prK h F) A1 c1 V (glob_below hG hV) hk1 hnp.1 hnp.2 hcp
    rw [hfo] at this
    exact this.mono fun e w' ⟨A, c, a, _, k, d⟩ => ⟨A, c, a, k.carry fun b hb => ⟨hb.2, rfl⟩, d⟩
  obtain ⟨fh, hfh⟩ : ∃ x, (foT h F).1 = x := ⟨_, rfl⟩
  obtain ⟨fk, hfk⟩ : ∃ x, (foT h F).2 = x := ⟨_, rfl⟩
  rw [hfh, hfk] at hev HFI
  rw [hfk] at hdp
  have HPD : Hid (∀ V A1 c1, Kids (Lt V.heap.size) V A1 (prK fh fk) → Calls Tryz.prog 25 #[nv (pNode 1 ⟨#[]⟩) A1 1 c1] V fun e w' => ∃ A c, e = .returned (nv fh A fk.len c) ∧ Kids (Lt w'.heap.size) w' A fk ∧ Below V.heap.size V w') := Lib.hid fun V A1 c1 hk1 => (printed_any (pNode 1 ⟨#[]⟩) fh fk A1 c1 V hk1).mono fun e w' ⟨A, c, a, _, k, d⟩ => ⟨A, c, a, k, d⟩
  obtain ⟨v, hv⟩ : ∃ v, (evT h F).v = v := ⟨_, rfl⟩
  obtain ⟨b, hb⟩ : ∃ b, ((evT h F).k != 0) = b := ⟨_, rfl⟩
  have HV1 : Hid (∀ V, Below w.heap.size w V → Calls Tryz.prog 14 #[nv h A F.len cap] V (RetV v b V)) := Lib.hid fun V hV => by
    have := value_any h F A cap V (kidsV hk hV) (by have := dep_le F; omega)
    rwa [hv, hb] at this
  have HV2 : Hid (∀ V A1 c1, Kids (Lt V.heap.size) V A1 fk → Calls Tryz.prog 14 #[nv fh A1 fk.len c1] V (RetV v b V)) := Lib.hid fun V A1 c1 hk1 => by
    have := value_any fh fk A1 c1 V hk1 hdp
    rwa [hev, hv, hb] at this
  obtain ⟨n, hna⟩ : ∃ n, F.len = n := ⟨_, rfl⟩
  rw [hna] at H0 HAW HCN HPR HV1 ⊢
  obtain ⟨n', hnb⟩ : ∃ n, fk.len = n := ⟨_, rfl⟩
  rw [hnb] at HPD HV2
  have evv : (v == v) = true := by simp
  have ebb : (b == b) = true := by simp
  clear hG hk hn hF hc hm hna hg hnp hcp hcap hvd hok hr hA hfo hev hdp hfh hfk hv hb hnb
  go_enter Tryz.func8, Tryz.ntmps8
  go_wp2_with fail
  refine HAW.out.mono ?_
  rintro e w1 ⟨rfl, hb1⟩
  have X1 := Lib.hid (H0.out.keep hb1)
  obtain ⟨a0, a1, a2, a3, a4, a5, a6, a7, a8⟩ := nb9 X1.out.n
  clear hb1
  go_wp2_with fail
  refine (HCN.out _ X1.out.b).mono ?_
  rintro e w2 ⟨rfl, hb2⟩
  have X2 := Lib.hid (X1.out.keep hb2)
  clear a0 a1 a2 a3 a4 a5 a6 a7 a8
  obtain ⟨a0, a1, a2, a3, a4, a5, a6, a7, a8⟩ := nb9 X2.out.n
  clear hb2
  go_wp2_with fail
  refine (HPR.out _ X2.out.b).mono ?_
  rintro e w3 ⟨A1, c1, rfl, hk3, hb3⟩
  have X3 := Lib.hid (X2.out.keep hb3)
  clear a0 a1 a2 a3 a4 a5 a6 a7 a8
  obtain ⟨a0, a1, a2, a3, a4, a5, a6, a7, a8⟩ := nb9 X3.out.n
  have HK3 := Lib.hid hk3
  clear hk3
  clear hb3
  go_wp2_with fail
  refine (HVD.out _ _ _ HK3.out).mono ?_
  rintro e w4 ⟨rfl, hb4⟩
  have X4 := Lib.hid (X3.out.keep hb4)
  clear a0 a1 a2 a3 a4 a5 a6 a7 a8
  obtain ⟨a0, a1, a2, a3, a4, a5, a6, a7, a8⟩ := nb9 X4.out.n
  clear hb4
  go_wp2_with fail
  refine (HV1.out _ X4.out.b).mono ?_
  rintro e w5 ⟨rfl, hb5⟩
  have X5 := Lib.hid (X4.out.keep hb5)
  clear a0 a1 a2 a3 a4 a5 a6 a7 a8
  obtain ⟨a0, a1, a2, a3, a4, a5, a6, a7, a8⟩ := nb9 X5.out.n
  clear hb5
  go_wp2_with fail
  refine (HPR.out _ X5.out.b).mono ?_
  rintro e w6 ⟨A2, c2, rfl, hk6, hb6⟩
  have X6 := Lib.hid (X5.out.keep hb6)
  clear a0 a1 a2 a3 a4 a5 a6 a7 a8
  obtain ⟨a0, a1, a2, a3, a4, a5, a6, a7, a8⟩ := nb9 X6.out.n
  have HK6 := Lib.hid hk6
  clear hk6
  clear hb6
  go_wp2_with fail
  refine (HFI.out _ _ _ X6.out.b HK6.out).mono ?_
  rintro e w7 ⟨A3, c3, rfl, hk7, hb7⟩
  have X7 := Lib.hid (X6.out.keep hb7)
  clear a0 a1 a2 a3 a4 a5 a6 a7 a8
  obtain ⟨a0, a1, a2, a3, a4, a5, a6, a7, a8⟩ := nb9 X7.out.n
  have HK7 := Lib.hid hk7
  clear hk7
  clear hb7
  go_wp2_with fail
  refine (HPD.out _ _ _ HK7.out).mono ?_
  rintro e w8 ⟨A4, c4, rfl, hk8, hb8⟩
  have X8 := Lib.hid (X7.out.keep hb8)
  clear a0 a1 a2 a3 a4 a5 a6 a7 a8
  obtain ⟨a0, a1, a2, a3, a4, a5, a6, a7, a8⟩ := nb9 X8.out.n
  have HK8 := Lib.hid hk8
  clear hk8
  clear hb8
  go_wp2_with fail
  refine (HV2.out _ _ _ HK8.out).mono ?_
  rintro e w9 ⟨rfl, hb9⟩
  have X9 := Lib.hid (X8.out.keep hb9)
  clear a0 a1 a2 a3 a4 a5 a6 a7 a8
  obtain ⟨a0, a1, a2, a3, a4, a5, a6, a7, a8⟩ := nb9 X9.out.n
  clear hb9
  go_wp2
  go_ret
  exact ⟨rfl, X9.out.b⟩

theorem keeps_law (h : Hd) (F : Fo) (A : Option Addr) (cap : Nat) (w : World) (hG : Glob w) (hk : Kids (Lt w.heap.size) w A F) (hn : numIx h) (hF : F.AllH numIx) (hc : F.cnt + 1 ≤ 1048576) (hcap : F.len ≤ cap) : Calls Tryz.prog 8 #[nv h A F.len cap] w fun e w' => e = .returned (.bool true) ∧ Below w.heap.size w w' := by
  by_cases g : F.cnt + 1 ≤ 100
  · by_cases v : validT nmv (pNode 1 ⟨#[]⟩) (prK h F) = true
    · exact keeps_val h F A cap w hG hk hn hF hc hcap g v
    · exact keeps_inv h F A cap w hG hk hn hF hc hcap g (by simpa using v)
  · exact keeps_yes h F A cap w hG hk hn hF hc g

end Go.Proofs.YtnknphchjmnkcaaGreatDoor
