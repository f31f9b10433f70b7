/-
  The walks of File (the program's and the specification's) and of the specification's Value (package fold).
-/
import Derived.Test.YtnknphchjmnkcaaGreatDoorFO
set_option linter.all false
namespace Go.Proofs.YtnknphchjmnkcaaGreatDoor
open Go.RowKit T T.Fo
theorem nm_nmv' : (nm : ByteArray → Bool) = nmv := funext fun s => M.nmS_eq _
/-- What File returns. -/
def fileT (h : Hd) (F : Fo) : Hd × Fo := if validT nm h F = true then foT h F else (litH 0 0 0, .nil)
theorem pl_numIx : ∀ {F : Fo}, F.AllH numIx → (plF F).AllH numIx ∧ ∀ h, numIx h → numIx (plH h) := by
  have one : ∀ h, numIx h → numIx (plH h) := fun h hn => by
    refine ⟨?_, hn.2⟩
    show (Lit.int .i64 (if counts h then h.num else 0)).wf = true
    split
    · exact hn.1
    · decide
  intro F
  induction F with
  | nil => intro _; exact ⟨trivial, one⟩
  | cons h k r ihk ihr => intro ⟨a, b, c⟩; exact ⟨⟨one h a, (ihk b).1, (ihr c).1⟩, one⟩
set_option maxRecDepth 100000

def BA (f : FuncId) (h : Hd) (A : Option Addr) (n cap : Nat) (w : World) (b : Bool) : Prop := ∀ V, Below w.heap.size w V → Calls Tryz.prog f #[nv h A n cap] V fun e V' => e = .returned (.bool b) ∧ Below V.heap.size V V'

theorem file18_no (h : Hd) (A : Option Addr) (n cap : Nat) (w : World) (HX : Hid (BA 38 h A n cap w false)) : Calls Tryz.prog 18 #[nv h A n cap] w (Made w (litH 0 0 0) .nil) := by
  have H0 := Lib.hid (bx_start w h A n cap)
  go_enter Tryz.func18, Tryz.ntmps18
  go_wp2_with fail
  refine (HX.out _ H0.out.bl).mono ?_
  rintro e w1 ⟨rfl, hb1⟩
  have x1 := bx_keep H0.out hb1
  have X1 := Lib.hid x1
  obtain ⟨a0, a1, a2, a3, a4, a5, a6, a7, a8⟩ := x1.all
  simp only [Nat.zero_add] at a1 a2 a3 a4 a5 a6 a7 a8
  clear hb1 x1
  have HR9 := Lib.hid X1.out.hr
  have hrz := HR9.out
  obtain ⟨⟨r0, r1, r2, r3, r4, r5, r6, r7, r8⟩, f0, f1, f2, f3, f4, f5, f6, f7, f8⟩ := zero9 hrz
  clear hrz a0 a1 a2 a3 a4 a5 a6 a7 a8
  go_wp2
  have hbk := blk9 (h' := litH 0 0 0) (A' := none) (n' := 0) (c' := 0) (h := ⟨0, ⟨#[]⟩, 0, 0, 0, ⟨#[]⟩, 0, 0⟩) (A := none) (n := 0) (c := 0) HR9.out
  have h9 := nine w w1 (w.heap.size + 1) (.int .i64 0) (.string ⟨#[]⟩) (.int .i64 0) (.int .i64 0) (.slice none 0 0) (.int .i64 0) (.string ⟨#[]⟩) (.int .i64 0) (.int .i64 0) rfl
  exact ret_cell Tryz.results18 (r := w.heap.size + 1) (h := ⟨0, ⟨#[]⟩, 0, 0, 0, ⟨#[]⟩, 0, 0⟩) (A := none) (n := 0) (c := 0) rfl rfl hbk ⟨none, 0, rfl, Nat.le_refl _, .inl rfl, h9.2.2 X1.out.bl (by omega)⟩

theorem file19_no (h : Hd) (A : Option Addr) (n cap : Nat) (w : World) (HX : Hid (BA 22 h A n cap w false)) : Calls Tryz.prog 19 #[nv h A n cap] w (Made w (litH 0 0 0) .nil) := by
  have H0 := Lib.hid (bx_start w h A n cap)
  go_enter Tryz.func19, Tryz.ntmps19
  go_wp2_with fail
  refine (HX.out _ H0.out.bl).mono ?_
  rintro e w1 ⟨rfl, hb1⟩
  have x1 := bx_keep H0.out hb1
  have X1 := Lib.hid x1
  obtain ⟨a0, a1, a2, a3, a4, a5, a6, a7, a8⟩ := x1.all
  simp only [Nat.zero_add] at a1 a2 a3 a4 a5 a6 a7 a8
  clear hb1 x1
  have HR9 := Lib.hid X1.out.hr
  have hrz := HR9.out
  obtain ⟨⟨r0, r1, r2, r3, r4, r5, r6, r7, r8⟩, f0, f1, f2, f3, f4, f5, f6, f7, f8⟩ := zero9 hrz
  clear hrz a0 a1 a2 a3 a4 a5 a6 a7 a8
  go_wp2
  have hbk := blk9 (h' := litH 0 0 0) (A' := none) (n' := 0) (c' := 0) (h := ⟨0, ⟨#[]⟩, 0, 0, 0, ⟨#[]⟩, 0, 0⟩) (A := none) (n := 0) (c := 0) HR9.out
  have h9 := nine w w1 (w.heap.size + 1) (.int .i64 0) (.string ⟨#[]⟩) (.int .i64 0) (.int .i64 0) (.slice none 0 0) (.int .i64 0) (.string ⟨#[]⟩) (.int .i64 0) (.int .i64 0) rfl
  exact ret_cell Tryz.results19 (r := w.heap.size + 1) (h := ⟨0, ⟨#[]⟩, 0, 0, 0, ⟨#[]⟩, 0, 0⟩) (A := none) (n := 0) (c := 0) rfl rfl hbk ⟨none, 0, rfl, Nat.le_refl _, .inl rfl, h9.2.2 X1.out.bl (by omega)⟩

theorem file18_yes (h : Hd) (A : Option Addr) (n cap : Nat) (w : World) (HX : Hid (BA 38 h A n cap w true)) (h' : Hd) (k' : Fo) (HP : Hid (∀ V, Below w.heap.size w V → Calls Tryz.prog 39 #[nv h A n cap, fv40] V (Made V h' k'))) : Calls Tryz.prog 18 #[nv h A n cap] w (Made w h' k') := by
  have H0 := Lib.hid (bx_start w h A n cap)
  go_enter Tryz.func18, Tryz.ntmps18
  go_wp2_with fail
  refine (HX.out _ H0.out.bl).mono ?_
  rintro e w1 ⟨rfl, hb1⟩
  have x1 := bx_keep H0.out hb1
  have X1 := Lib.hid x1
  obtain ⟨a0, a1, a2, a3, a4, a5, a6, a7, a8⟩ := x1.all
  simp only [Nat.zero_add] at a1 a2 a3 a4 a5 a6 a7 a8
  clear hb1 x1
  have HQ0 := Lib.hid (HP.out _ X1.out.bl)
  go_wp2_with fail
  refine HQ0.out.mono ?_
  rintro e w9 ⟨A', c', rfl, hl, hk9, hb9⟩
  clear a0 a1 a2 a3 a4 a5 a6 a7 a8
  have HB9 := Lib.hid hb9
  have HK9 := Lib.hid hk9
  have HR9 := Lib.hid ((hb9.block _ X1.out.zr).trans X1.out.hr)
  have hrz := HR9.out
  obtain ⟨⟨r0, r1, r2, r3, r4, r5, r6, r7, r8⟩, f0, f1, f2, f3, f4, f5, f6, f7, f8⟩ := zero9 hrz
  have HL := Lib.hid hl
  obtain ⟨m, hm2⟩ : ∃ m, k'.len = m := ⟨_, rfl⟩
  have HM := Lib.hid hm2
  rw [hm2]
  clear hb9 hk9 hrz hl hm2
  go_wp2
  have hbk := blk9 (h' := litH 0 0 0) (A' := none) (n' := 0) (c' := 0) (h := h') (A := A') (n := m) (c := c') HR9.out
  exact ret_cell Tryz.results18 (r := w.heap.size + 1) (h := h') (A := A') (n := m) (c := c') rfl rfl hbk (HM.out ▸ made_fin X1.out.zr X1.out.bl HK9.out HL.out HB9.out (nine w w9 (w.heap.size + 1) _ _ _ _ _ _ _ _ _ rfl))

theorem file19_yes (h : Hd) (A : Option Addr) (n cap : Nat) (w : World) (HX : Hid (BA 22 h A n cap w true)) (h1 : Hd) (k1 : Fo) (HC : Hid (∀ V, Below w.heap.size w V → Calls Tryz.prog 42 #[nv h A n cap] V (Made V h1 k1))) (h' : Hd) (k' : Fo) (HP : Hid (∀ A1 c1 V, Kids (Lt V.heap.size) V A1 k1 → Calls Tryz.prog 41 #[nv h1 A1 k1.len c1] V (Made V h' k'))) : Calls Tryz.prog 19 #[nv h A n cap] w (Made w h' k') := by
  have H0 := Lib.hid (bx_start w h A n cap)
  go_enter Tryz.func19, Tryz.ntmps19
  go_wp2_with fail
  refine (HX.out _ H0.out.bl).mono ?_
  rintro e w1 ⟨rfl, hb1⟩
  have x1 := bx_keep H0.out hb1
  have X1 := Lib.hid x1
  obtain ⟨a0, a1, a2, a3, a4, a5, a6, a7, a8⟩ := x1.all
  simp only [Nat.zero_add] at a1 a2 a3 a4 a5 a6 a7 a8
  clear hb1 x1
  have HC0 := Lib.hid (HC.out _ X1.out.bl)
  go_wp2_with fail
  refine HC0.out.mono ?_
  rintro e w2 ⟨A1, c1, rfl, hl1, hk1, hb2⟩
  have X2 := Lib.hid (bx_keep X1.out hb2)
  have HQ0 := Lib.hid (HP.out A1 c1 w2 (hk1.carry fun b hb => ⟨hb.2, rfl⟩))
  obtain ⟨m1, hm1⟩ : ∃ m, k1.len = m := ⟨_, rfl⟩
  rw [hm1] at HQ0 ⊢
  clear a0 a1 a2 a3 a4 a5 a6 a7 a8 hl1 hk1 hb2 hm1
  go_wp2_with fail
  refine HQ0.out.mono ?_
  rintro e w9 ⟨A', c', rfl, hl, hk9, hb9⟩
  have HB9 := Lib.hid hb9
  have HK9 := Lib.hid hk9
  have HR9 := Lib.hid ((hb9.block _ X2.out.zr).trans X2.out.hr)
  have hrz := HR9.out
  obtain ⟨⟨r0, r1, r2, r3, r4, r5, r6, r7, r8⟩, f0, f1, f2, f3, f4, f5, f6, f7, f8⟩ := zero9 hrz
  have HL := Lib.hid hl
  obtain ⟨m, hm2⟩ : ∃ m, k'.len = m := ⟨_, rfl⟩
  have HM := Lib.hid hm2
  rw [hm2]
  clear hb9 hk9 hrz hl hm2
  go_wp2
  have hbk := blk9 (h' := litH 0 0 0) (A' := none) (n' := 0) (c' := 0) (h := h') (A := A') (n := m) (c := c') HR9.out
  exact ret_cell Tryz.results19 (r := w.heap.size + 1) (h := h') (A := A') (n := m) (c := c') rfl rfl hbk (HM.out ▸ made_fin X2.out.zr X2.out.bl HK9.out HL.out HB9.out (nine w w9 (w.heap.size + 1) _ _ _ _ _ _ _ _ _ rfl))

/-- Facts of a tree that File takes. -/
theorem file_any (h : Hd) (F : Fo) (A : Option Addr) (cap : Nat) (w : World) (hG : Glob w) (hk : Kids (Lt w.heap.size) w A F) (hn : numIx h) (hF : F.AllH numIx) (hm : F.cnt + 1 ≤ 1048576) : Calls Tryz.prog 18 #[nv h A F.len cap] w (Made w (fileT h F).1 (fileT h F).2) := by
  have hv : ∀ V, Below w.heap.size w V → Calls Tryz.prog 38 #[nv h A F.len cap] V fun e w' => e = .returned (.bool (validT nm h F)) ∧ Below V.heap.size V w' := fun V hV => valid_any h F A cap V (glob_below hG hV) (kidsV hk hV) hn hF (by omega)
  unfold fileT
  by_cases v : validT nm h F = true
  · rw [if_pos v]
    rw [v] at hv
    have hT : okT nm h F = true ∧ F.dep + 1 ≤ 50 := by
      unfold validT at v
      rw [Bool.and_eq_true, permT_dep, Bool.and_eq_true] at v
      exact ⟨v.2.1, of_decide_eq_true v.2.2⟩
    exact file18_yes h A F.len cap w (Lib.hid hv) _ _ (Lib.hid fun V hV => rebuilt_any nm h F hT.1 (rg_of hn) ⟨(okT_parts hT.1).2.2.2, rgs_of hF, by omega⟩ (by omega) A cap V (kidsV hk hV))
  · have v' : validT nm h F = false := by simpa using v
    rw [if_neg v]
    rw [v'] at hv
    exact file18_no h A F.len cap w (Lib.hid hv)
theorem rfile_any (h : Hd) (F : Fo) (A : Option Addr) (cap : Nat) (w : World) (hk : Kids (Lt w.heap.size) w A F) (hn : numIx h) (hF : F.AllH numIx) (hm : F.cnt + 1 ≤ 1048576) : Calls Tryz.prog 19 #[nv h A F.len cap] w (Made w (fileT h F).1 (fileT h F).2) := by
  have hv : ∀ V, Below w.heap.size w V → Calls Tryz.prog 22 #[nv h A F.len cap] V fun e w' => e = .returned (.bool (validT nmv h F)) ∧ Below V.heap.size V w' := fun V hV => rvalid_any h F A cap V ⟨hn, hF, by omega⟩ (kidsV hk hV)
  unfold fileT
  rw [nm_nmv']
  by_cases v : validT nmv h F = true
  · rw [if_pos v]
    rw [v] at hv
    have hT : okT nmv h F = true := by
      unfold validT at v
      rw [Bool.and_eq_true, permT_dep, Bool.and_eq_true] at v
      exact v.2.1
    obtain ⟨q1, q2⟩ := pl_numIx hF
    have hcn : (plF F).cnt ≤ 1048576 := by rw [plF_cnt]; omega
    have e := foT_pl h F
    have hfd := rfolded_any (plH h) (plF F) (by rw [okT_pl]; exact hT) ⟨q2 h hn, q1, hcn⟩ (rg_of (q2 h hn)) (rgs_of q1) (isPl_plH h) (isPl_plF F)
    rw [e] at hfd
    exact file19_yes h A F.len cap w (Lib.hid hv) (plH h) (plF F) (Lib.hid fun V hV => plain_any h F A cap V (kidsV hk hV) hm) _ _ (Lib.hid fun A1 c1 V hk1 => hfd A1 c1 V hk1)
  · have v' : validT nmv h F = false := by simpa using v
    rw [if_neg v]
    rw [v'] at hv
    exact file19_no h A F.len cap w (Lib.hid hv)

theorem rval_o (h : Hd) (A : Option Addr) (n cap : Nat) (w : World) (HX : Hid (ExA h A n cap w false)) : Calls Tryz.prog 16 #[nv h A n cap] w (RetV 0 false w) := by
  have HB0 : Hid (Below w.heap.size w (w.alloc (.cells (nc h A n cap) 26))) := Lib.hid (fb1 w _)
  go_enter Tryz.func16, Tryz.ntmps16
  go_wp2_with fail
  refine (HX.out _ HB0.out).mono ?_
  rintro e w1 ⟨rfl, hb1⟩
  obtain ⟨hc1, hf1⟩ := fbcell hb1
  have hz1 : w.heap.size < w1.heap.size := by have := hb1.size; simp at this; omega
  have HB1 := Lib.hid (HB0.out.trans (hb1.mono (by simp)))
  clear hb1
  go_wp2
  go_ret2
  exact ⟨rfl, HB1.out⟩

theorem rval_y (h : Hd) (A : Option Addr) (n cap : Nat) (w : World) (v : Int) (HC : Hid (KoA h A n cap w v true)) (HX : Hid (ExA h A n cap w true)) : Calls Tryz.prog 16 #[nv h A n cap] w (RetV v true w) := by
  have HB0 : Hid (Below w.heap.size w (w.alloc (.cells (nc h A n cap) 26))) := Lib.hid (fb1 w _)
  go_enter Tryz.func16, Tryz.ntmps16
  go_wp2_with fail
  refine (HX.out _ HB0.out).mono ?_
  rintro e w1 ⟨rfl, hb1⟩
  obtain ⟨hc1, hf1⟩ := fbcell hb1
  have hz1 : w.heap.size < w1.heap.size := by have := hb1.size; simp at this; omega
  have HB1 := Lib.hid (HB0.out.trans (hb1.mono (by simp)))
  clear hb1
  go_wp2_with fail
  refine (HC.out _ HB1.out).mono ?_
  rintro e w2 ⟨b, rfl, hb2⟩
  have HB2 := Lib.hid (HB1.out.trans (hb2.mono HB1.out.size))
  clear hb2
  go_wp2
  go_ret2
  exact ⟨rfl, HB2.out⟩

theorem rval_n (h : Hd) (A : Option Addr) (n cap : Nat) (w : World) (v : Int) (HC : Hid (KoA h A n cap w v false)) (HX : Hid (ExA h A n cap w true)) : Calls Tryz.prog 16 #[nv h A n cap] w (RetV 0 false w) := by
  have HB0 : Hid (Below w.heap.size w (w.alloc (.cells (nc h A n cap) 26))) := Lib.hid (fb1 w _)
  go_enter Tryz.func16, Tryz.ntmps16
  go_wp2_with fail
  refine (HX.out _ HB0.out).mono ?_
  rintro e w1 ⟨rfl, hb1⟩
  obtain ⟨hc1, hf1⟩ := fbcell hb1
  have hz1 : w.heap.size < w1.heap.size := by have := hb1.size; simp at this; omega
  have HB1 := Lib.hid (HB0.out.trans (hb1.mono (by simp)))
  clear hb1
  go_wp2_with fail
  refine (HC.out _ HB1.out).mono ?_
  rintro e w2 ⟨b, rfl, hb2⟩
  have HB2 := Lib.hid (HB1.out.trans (hb2.mono HB1.out.size))
  clear hb2
  go_wp2
  go_ret2
  exact ⟨rfl, HB2.out⟩

theorem rvalue_any (h : Hd) (F : Fo) (A : Option Addr) (cap : Nat) (w : World) (hk : Kids (Lt w.heap.size) w A F) (hO : Ok h F) : Calls Tryz.prog 16 #[nv h A F.len cap] w (RetV (evT h F).v ((evT h F).k != 0) w) := by
  have hE : ∀ V, Below w.heap.size w V → CB' 36 V (nv h A F.len cap) (exOk nmv h F) := fun V hV => (five_any h F hO).1 A cap V (kidsV hk hV)
  have ok := evT_ok (rg_of hO.1) (rgs_of hO.2.1)
  have nok : (evT h F).k = 0 → evT h F = no := fun z => by
    rcases ok with e | ⟨e, _⟩ | ⟨e, _⟩
    · exact e
    · omega
    · omega
  by_cases x : exOk nmv h F = true
  · rw [x] at hE
    have hT : okT nmv h F = true := by unfold exOk at x; rw [Bool.and_eq_true] at x; exact x.2
    have hC := (constant_any nmv h F).at_ (A := A) (cap := cap) (w := w) hT (rg_of hO.1) (rgs_of hO.2.1) hk
    by_cases z : (evT h F).k = 0
    · have e := nok z
      have r := rval_n h A F.len cap w (evT h F).v (Lib.hid fun V hV => (hC V hV).mono fun e V' H => H.e (by simp [z])) (Lib.hid hE)
      rw [e]; exact r
    · have r := rval_y h A F.len cap w (evT h F).v (Lib.hid fun V hV => (hC V hV).mono fun e V' H => H.e (by simpa using z)) (Lib.hid hE)
      rw [show ((evT h F).k != 0) = true by simpa using z]; exact r
  · have x' : exOk nmv h F = false := by simpa using x
    rw [x'] at hE
    have e : evT h F = no := by
      refine nok ?_
      by_cases z : (evT h F).k = 0
      · exact z
      · obtain ⟨a, b⟩ := ev_ok nmv h F z
        unfold exOk at x'
        rw [a, b] at x'
        cases x'
    have r := rval_o h A F.len cap w (Lib.hid hE)
    rw [e]; exact r

end Go.Proofs.YtnknphchjmnkcaaGreatDoor
