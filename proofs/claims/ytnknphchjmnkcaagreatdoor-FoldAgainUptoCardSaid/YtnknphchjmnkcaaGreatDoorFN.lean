/-
  The walk of the specification's folded (package fold).
-/
import Derived.Test.YtnknphchjmnkcaaGreatDoorFL
set_option linter.all false
namespace Go.Proofs.YtnknphchjmnkcaaGreatDoor
open Go.RowKit T T.Fo
/-- folded's contract at a tree without annotations. -/
def FdP (h : Hd) (F : Fo) : Prop := okT nmv h F = true → Ok h F → rgH h → F.AllH rgH → isPl h → F.AllH isPl → ∀ (A : Option Addr) (cap : Nat) (w : World), Kids (Lt w.heap.size) w A F → Calls Tryz.prog 41 #[nv h A F.len cap] w (Made w (foT h F).1 (foT h F).2)
/-- What a call within folded leaves: the node's box, the result's. -/
theorem bx_start (w : World) (h : Hd) (A : Option Addr) (n cap : Nat) : Bx w ((w.alloc (.cells (nc h A n cap) 26)).alloc (.cells nc0 26)) w.heap.size (w.heap.size + 1) h A n cap := by
  refine ⟨?_, ?_, by simp only [World.size_alloc]; omega, by simp only [World.size_alloc]; omega, (fb1 w _).trans ((fb1 _ _).mono (by simp))⟩
  · rw [Below.heap_alloc _ _ _ (by simp)]; exact heap_alloc_new _ _
  · have := heap_alloc_new (w.alloc (.cells (nc h A n cap) 26)) (.cells nc0 26)
    simpa using this
theorem bx_keep {w V V' : World} {b r n cap : Nat} {h : Hd} {A : Option Addr} (H : Bx w V b r h A n cap) (hb : Below V.heap.size V V') : Bx w V' b r h A n cap := H.below hb H.bl.size
/-- IsExpr's and constant's answers at every later world. -/
def ExA (h : Hd) (A : Option Addr) (n cap : Nat) (w : World) (b : Bool) : Prop := ∀ V, Below w.heap.size w V → Calls Tryz.prog 36 #[nv h A n cap] V fun e V' => e = .returned (.bool b) ∧ Below V.heap.size V V'
def KoA (h : Hd) (A : Option Addr) (n cap : Nat) (w : World) (v : Int) (ok : Bool) : Prop := ∀ V, Below w.heap.size w V → Calls Tryz.prog 37 #[nv h A n cap] V fun e V' => ∃ b, e = .returned (.tuple #[.int .i64 v, .bool b, .bool ok]) ∧ Below V.heap.size V V'
/-- The result is what a call made, put into the result's box. -/
theorem made_fin {w W0 w1 W : World} {cap : Nat} {A : Option Addr} {h : Hd} {k : Fo} (hz : w.heap.size + 1 < W0.heap.size) (h0 : Below w.heap.size w W0)
    (hk : Kids (Rng W0.heap.size w1.heap.size) w1 A k) (hc : k.len ≤ cap) (hb1 : Below W0.heap.size W0 w1)
    (h9 : (∀ b, b ≠ w.heap.size + 1 → W.heap[b]? = w1.heap[b]?) ∧ W.heap.size = w1.heap.size ∧ (Below w.heap.size w w1 → w.heap.size ≤ w.heap.size + 1 → Below w.heap.size w W)) : Made w h k (.returned (nv h A k.len cap)) W :=
  ⟨A, cap, rfl, hc, hk.carry fun b hb => ⟨⟨by have := hb.1; omega, by rw [h9.2.1]; exact hb.2⟩, h9.1 b (by have := hb.1; omega)⟩, h9.2.2 (h0.trans (hb1.mono h0.size)) (by omega)⟩
set_option maxRecDepth 100000

set_option maxHeartbeats 2000000 in
theorem fd_s (k : Int) (t : ByteArray) (nu p tk : Int) (tn : ByteArray) (r u : Int) (A : Option Addr) (n cap : Nat) (w : World) (c : Cv) (b : Bool) (h' : Hd) (k' : Fo) (t1 : (c.v != -9223372036854775808) = true) (HX : Hid (ExA ⟨k, t, nu, p, tk, tn, r, u⟩ A n cap w true)) (HC : Hid (CoA ⟨k, t, nu, p, tk, tn, r, u⟩ A n cap w c.v b true)) (HP : Hid (∀ V, Below w.heap.size w V → Calls Tryz.prog 68 #[.int .i64 c.v, .bool b, .int .i64 p] V (Made V h' k'))) :
    Calls Tryz.prog 41 #[nv ⟨k, t, nu, p, tk, tn, r, u⟩ A n cap] w (Made w h' k') := by
  have H0 := Lib.hid (bx_start w ⟨k, t, nu, p, tk, tn, r, u⟩ A n cap)
  go_enter Tryz.func41, Tryz.ntmps41
  go_wp2_with fail
  refine (HX.out _ H0.out.bl).mono ?_
  rintro e w1 ⟨rfl, hb1⟩
  have x1 := bx_keep H0.out hb1
  have X1 := Lib.hid x1
  obtain ⟨a0, a1, a2, a3, a4, a5, a6, a7, a8⟩ := x1.all
  simp only [Nat.zero_add] at a1 a2 a3 a4 a5 a6 a7 a8
  clear hb1 x1
  go_wp2_with fail
  refine (HC.out _ X1.out.bl).mono ?_
  rintro e w2 ⟨rfl, hb2⟩
  have x2 := bx_keep X1.out hb2
  have X2 := Lib.hid x2
  clear a0 a1 a2 a3 a4 a5 a6 a7 a8
  obtain ⟨a0, a1, a2, a3, a4, a5, a6, a7, a8⟩ := x2.all
  simp only [Nat.zero_add] at a1 a2 a3 a4 a5 a6 a7 a8
  clear hb2 x2
  have HQ0 := Lib.hid (HP.out _ X2.out.bl)
  go_wp2_with fail
  refine HQ0.out.mono ?_
  rintro e w9 ⟨A', c', rfl, hl, hk9, hb9⟩
  have HB9 := Lib.hid hb9
  have HK9 := Lib.hid hk9
  have HR9 := Lib.hid ((hb9.block _ X2.out.zr).trans X2.out.hr)
  have hrz := HR9.out
  obtain ⟨⟨r0, r1, r2, r3, r4, r5, r6, r7, r8⟩, f0, f1, f2, f3, f4, f5, f6, f7, f8⟩ := zero9 hrz
  have HL := Lib.hid hl
  obtain ⟨m, hm2⟩ : ∃ m, k'.len = m := ⟨_, rfl⟩
  have HM := Lib.hid hm2
  rw [hm2]
  clear hb9 hk9 hrz hl hm2 a0 a1 a2 a3 a4 a5 a6 a7 a8
  go_wp2
  have hbk := blk9 (h' := litH 0 0 0) (A' := none) (n' := 0) (c' := 0) (h := h') (A := A') (n := m) (c := c') HR9.out
  exact ret_cell Tryz.results41 (r := w.heap.size + 1) (h := h') (A := A') (n := m) (c := c') rfl rfl hbk (HM.out ▸ made_fin X2.out.zr X2.out.bl HK9.out HL.out HB9.out (nine w w9 (w.heap.size + 1) _ _ _ _ _ _ _ _ _ rfl))

set_option maxHeartbeats 2000000 in
theorem fd_i1 (t : ByteArray) (nu p tk : Int) (tn : ByteArray) (r u : Int) (g o cap : Nat) (w : World) (h0 h1 h2 : Hd) (A0 A1 A2 : Option Addr) (n0 n1 n2 c0 c1 c2 : Nat) (d : At9 w g o h0 A0 n0 c0) (e : At9 w g (o + 9) h1 A1 n1 c1) (f : At9 w g (o + 18) h2 A2 n2 c2) (hg : g < w.heap.size) (v : Int) (HX : Hid (ExA ⟨18, t, nu, p, tk, tn, r, u⟩ (some ⟨g, o, none⟩) 3 cap w false)) (HC : Hid (KoA h0 A0 n0 c0 w v true)) (t1 : (v == 1) = true) (h' : Hd) (k' : Fo) (HP : Hid (∀ V, Below w.heap.size w V → Calls Tryz.prog 41 #[nv h1 A1 n1 c1] V (Made V h' k'))) :
    Calls Tryz.prog 41 #[nv ⟨18, t, nu, p, tk, tn, r, u⟩ (some ⟨g, o, none⟩) 3 cap] w (Made w h' k') := by
  have HD := Lib.hid d
  have HE := Lib.hid e
  have HF := Lib.hid f
  clear d e f
  have H0 := Lib.hid (bx_start w ⟨18, t, nu, p, tk, tn, r, u⟩ (some ⟨g, o, none⟩) 3 cap)
  go_enter Tryz.func41, Tryz.ntmps41
  go_wp2_with fail
  refine (HX.out _ H0.out.bl).mono ?_
  rintro e w1 ⟨rfl, hb1⟩
  have x1 := bx_keep H0.out hb1
  have X1 := Lib.hid x1
  obtain ⟨a0, a1, a2, a3, a4, a5, a6, a7, a8⟩ := x1.all
  simp only [Nat.zero_add] at a1 a2 a3 a4 a5 a6 a7 a8
  clear hb1 x1
  obtain ⟨d0, d1, d2, d3, d4, d5, d6, d7, d8⟩ := HD.out.carry (X1.out.bl.block g hg)
  have g1 : ¬ g = w.heap.size := by omega
  go_wp2_with fail
  refine (HC.out _ X1.out.bl).mono ?_
  rintro e w2 ⟨b, rfl, hb2⟩
  have x2 := bx_keep X1.out hb2
  have X2 := Lib.hid x2
  clear a0 a1 a2 a3 a4 a5 a6 a7 a8
  obtain ⟨a0, a1, a2, a3, a4, a5, a6, a7, a8⟩ := x2.all
  simp only [Nat.zero_add] at a1 a2 a3 a4 a5 a6 a7 a8
  clear hb2 x2
  clear d0 d1 d2 d3 d4 d5 d6 d7 d8
  obtain ⟨d0, d1, d2, d3, d4, d5, d6, d7, d8⟩ := HE.out.carry (X2.out.bl.block g hg)
  have HQ0 := Lib.hid (HP.out _ X2.out.bl)
  go_wp2_with fail
  refine HQ0.out.mono ?_
  rintro e w9 ⟨A', c', rfl, hl, hk9, hb9⟩
  have HB9 := Lib.hid hb9
  have HK9 := Lib.hid hk9
  have HR9 := Lib.hid ((hb9.block _ X2.out.zr).trans X2.out.hr)
  have hrz := HR9.out
  obtain ⟨⟨r0, r1, r2, r3, r4, r5, r6, r7, r8⟩, f0, f1, f2, f3, f4, f5, f6, f7, f8⟩ := zero9 hrz
  have HL := Lib.hid hl
  obtain ⟨m, hm2⟩ : ∃ m, k'.len = m := ⟨_, rfl⟩
  have HM := Lib.hid hm2
  rw [hm2]
  clear hb9 hk9 hrz hl hm2 a0 a1 a2 a3 a4 a5 a6 a7 a8
  go_wp2
  have hbk := blk9 (h' := litH 0 0 0) (A' := none) (n' := 0) (c' := 0) (h := h') (A := A') (n := m) (c := c') HR9.out
  exact ret_cell Tryz.results41 (r := w.heap.size + 1) (h := h') (A := A') (n := m) (c := c') rfl rfl hbk (HM.out ▸ made_fin X2.out.zr X2.out.bl HK9.out HL.out HB9.out (nine w w9 (w.heap.size + 1) _ _ _ _ _ _ _ _ _ rfl))

set_option maxHeartbeats 2000000 in
theorem fd_i3 (t : ByteArray) (nu p tk : Int) (tn : ByteArray) (r u : Int) (g o cap : Nat) (w : World) (h0 h1 h2 : Hd) (A0 A1 A2 : Option Addr) (n0 n1 n2 c0 c1 c2 : Nat) (d : At9 w g o h0 A0 n0 c0) (e : At9 w g (o + 9) h1 A1 n1 c1) (f : At9 w g (o + 18) h2 A2 n2 c2) (hg : g < w.heap.size) (v : Int) (HX : Hid (ExA ⟨18, t, nu, p, tk, tn, r, u⟩ (some ⟨g, o, none⟩) 3 cap w false)) (HC : Hid (KoA h0 A0 n0 c0 w v true)) (t1 : (v == 1) = false) (t2 : (h2.kind == 9) = false) (h' : Hd) (k' : Fo) (HP : Hid (∀ V, Below w.heap.size w V → Calls Tryz.prog 41 #[nv h2 A2 n2 c2] V (Made V h' k'))) :
    Calls Tryz.prog 41 #[nv ⟨18, t, nu, p, tk, tn, r, u⟩ (some ⟨g, o, none⟩) 3 cap] w (Made w h' k') := by
  have HD := Lib.hid d
  have HE := Lib.hid e
  have HF := Lib.hid f
  clear d e f
  have H0 := Lib.hid (bx_start w ⟨18, t, nu, p, tk, tn, r, u⟩ (some ⟨g, o, none⟩) 3 cap)
  go_enter Tryz.func41, Tryz.ntmps41
  go_wp2_with fail
  refine (HX.out _ H0.out.bl).mono ?_
  rintro e w1 ⟨rfl, hb1⟩
  have x1 := bx_keep H0.out hb1
  have X1 := Lib.hid x1
  obtain ⟨a0, a1, a2, a3, a4, a5, a6, a7, a8⟩ := x1.all
  simp only [Nat.zero_add] at a1 a2 a3 a4 a5 a6 a7 a8
  clear hb1 x1
  obtain ⟨d0, d1, d2, d3, d4, d5, d6, d7, d8⟩ := HD.out.carry (X1.out.bl.block g hg)
  have g1 : ¬ g = w.heap.size := by omega
  go_wp2_with fail
  refine (HC.out _ X1.out.bl).mono ?_
  rintro e w2 ⟨b, rfl, hb2⟩
  have x2 := bx_keep X1.out hb2
  have X2 := Lib.hid x2
  clear a0 a1 a2 a3 a4 a5 a6 a7 a8
  obtain ⟨a0, a1, a2, a3, a4, a5, a6, a7, a8⟩ := x2.all
  simp only [Nat.zero_add] at a1 a2 a3 a4 a5 a6 a7 a8
  clear hb2 x2
  clear d0 d1 d2 d3 d4 d5 d6 d7 d8
  obtain ⟨d0, d1, d2, d3, d4, d5, d6, d7, d8⟩ := HF.out.carry (X2.out.bl.block g hg)
  have HQ0 := Lib.hid (HP.out _ X2.out.bl)
  go_wp2_with fail
  refine HQ0.out.mono ?_
  rintro e w9 ⟨A', c', rfl, hl, hk9, hb9⟩
  have HB9 := Lib.hid hb9
  have HK9 := Lib.hid hk9
  have HR9 := Lib.hid ((hb9.block _ X2.out.zr).trans X2.out.hr)
  have hrz := HR9.out
  obtain ⟨⟨r0, r1, r2, r3, r4, r5, r6, r7, r8⟩, f0, f1, f2, f3, f4, f5, f6, f7, f8⟩ := zero9 hrz
  have HL := Lib.hid hl
  obtain ⟨m, hm2⟩ : ∃ m, k'.len = m := ⟨_, rfl⟩
  have HM := Lib.hid hm2
  rw [hm2]
  clear hb9 hk9 hrz hl hm2 a0 a1 a2 a3 a4 a5 a6 a7 a8
  go_wp2
  have hbk := blk9 (h' := litH 0 0 0) (A' := none) (n' := 0) (c' := 0) (h := h') (A := A') (n := m) (c := c') HR9.out
  exact ret_cell Tryz.results41 (r := w.heap.size + 1) (h := h') (A := A') (n := m) (c := c') rfl rfl hbk (HM.out ▸ made_fin X2.out.zr X2.out.bl HK9.out HL.out HB9.out (nine w w9 (w.heap.size + 1) _ _ _ _ _ _ _ _ _ rfl))

set_option maxHeartbeats 2000000 in
theorem fd_i2 (t : ByteArray) (nu p tk : Int) (tn : ByteArray) (r u : Int) (g o cap : Nat) (w : World) (h0 h1 h2 : Hd) (A0 A1 A2 : Option Addr) (n0 n1 n2 c0 c1 c2 : Nat) (d : At9 w g o h0 A0 n0 c0) (e : At9 w g (o + 9) h1 A1 n1 c1) (f : At9 w g (o + 18) h2 A2 n2 c2) (hg : g < w.heap.size) (v : Int) (HX : Hid (ExA ⟨18, t, nu, p, tk, tn, r, u⟩ (some ⟨g, o, none⟩) 3 cap w false)) (HC : Hid (KoA h0 A0 n0 c0 w v true)) (t1 : (v == 1) = false) (t2 : (h2.kind == 9) = true) :
    Calls Tryz.prog 41 #[nv ⟨18, t, nu, p, tk, tn, r, u⟩ (some ⟨g, o, none⟩) 3 cap] w (Made w (blkH p) .nil) := by
  have HD := Lib.hid d
  have HE := Lib.hid e
  have HF := Lib.hid f
  clear d e f
  have H0 := Lib.hid (bx_start w ⟨18, t, nu, p, tk, tn, r, u⟩ (some ⟨g, o, none⟩) 3 cap)
  go_enter Tryz.func41, Tryz.ntmps41
  go_wp2_with fail
  refine (HX.out _ H0.out.bl).mono ?_
  rintro e w1 ⟨rfl, hb1⟩
  have x1 := bx_keep H0.out hb1
  have X1 := Lib.hid x1
  obtain ⟨a0, a1, a2, a3, a4, a5, a6, a7, a8⟩ := x1.all
  simp only [Nat.zero_add] at a1 a2 a3 a4 a5 a6 a7 a8
  clear hb1 x1
  obtain ⟨d0, d1, d2, d3, d4, d5, d6, d7, d8⟩ := HD.out.carry (X1.out.bl.block g hg)
  have g1 : ¬ g = w.heap.size := by omega
  go_wp2_with fail
  refine (HC.out _ X1.out.bl).mono ?_
  rintro e w2 ⟨b, rfl, hb2⟩
  have x2 := bx_keep X1.out hb2
  have X2 := Lib.hid x2
  clear a0 a1 a2 a3 a4 a5 a6 a7 a8
  obtain ⟨a0, a1, a2, a3, a4, a5, a6, a7, a8⟩ := x2.all
  simp only [Nat.zero_add] at a1 a2 a3 a4 a5 a6 a7 a8
  clear hb2 x2
  clear d0 d1 d2 d3 d4 d5 d6 d7 d8
  obtain ⟨d0, d1, d2, d3, d4, d5, d6, d7, d8⟩ := HF.out.carry (X2.out.bl.block g hg)
  have HR9 := Lib.hid X2.out.hr
  have hrz := HR9.out
  obtain ⟨⟨r0, r1, r2, r3, r4, r5, r6, r7, r8⟩, f0, f1, f2, f3, f4, f5, f6, f7, f8⟩ := zero9 hrz
  clear hrz
  go_wp2
  have hbk := blk9 (h' := litH 0 0 0) (A' := none) (n' := 0) (c' := 0) (h := ⟨10, ⟨#[]⟩, 0, p, 0, ⟨#[]⟩, 0, 0⟩) (A := none) (n := 0) (c := 0) HR9.out
  have h9 := nine w w2 (w.heap.size + 1) (.int .i64 10) (.string ⟨#[]⟩) (.int .i64 0) (.int .i64 p) (.slice none 0 0) (.int .i64 0) (.string ⟨#[]⟩) (.int .i64 0) (.int .i64 0) rfl
  exact ret_cell Tryz.results41 (r := w.heap.size + 1) (h := ⟨10, ⟨#[]⟩, 0, p, 0, ⟨#[]⟩, 0, 0⟩) (A := none) (n := 0) (c := 0) rfl rfl hbk ⟨none, 0, rfl, Nat.le_refl _, .inl rfl, h9.2.2 X2.out.bl (by omega)⟩

/-- folded at a child, at every later world. -/
def FdA (w : World) (h : Hd) (F : Fo) : Prop := ∀ (A : Option Addr) (cap : Nat) (V : World), Kids (Lt V.heap.size) V A F → Calls Tryz.prog 41 #[nv h A F.len cap] V (Made V (foT h F).1 (foT h F).2)

set_option maxHeartbeats 4000000 in
theorem fd_o (k : Int) (t : ByteArray) (nu p tk : Int) (tn : ByteArray) (r u : Int) (F : Fo) (A : Option Addr) (cap : Nat) (w : World) (ih : F.All (FdA w)) (hk : Kids (Lt w.heap.size) w A F) (hm : F.cnt ≤ 1048576) (HX : Hid (ExA ⟨k, t, nu, p, tk, tn, r, u⟩ A F.len cap w false)) (e18 : (k == 18) = false) :
    Calls Tryz.prog 41 #[nv ⟨k, t, nu, p, tk, tn, r, u⟩ A F.len cap] w (Made w ⟨k, t, nu, p, tk, tn, r, u⟩ (foF F)) := by
  have HI := Lib.hid ih
  have HR := Lib.hid (Rest.start hk)
  have hlen : F.len ≤ F.cnt := F.len_le_cnt
  have hfl : F.len ≤ 1048576 := by omega
  obtain ⟨i0, hi, hz0, hz1, hz2⟩ := info_parts info26
  clear ih hk
  have H0 := Lib.hid (bx_start w ⟨k, t, nu, p, tk, tn, r, u⟩ A F.len cap)
  go_enter Tryz.func41, Tryz.ntmps41
  go_wp2_with fail
  refine (HX.out _ H0.out.bl).mono ?_
  rintro e w1 ⟨rfl, hb1⟩
  have x1 := bx_keep H0.out hb1
  have X1 := Lib.hid x1
  obtain ⟨a0, a1, a2, a3, a4, a5, a6, a7, a8⟩ := x1.all
  simp only [Nat.zero_add] at a1 a2 a3 a4 a5 a6 a7 a8
  clear hb1 x1
  have fz4 := X1.out.c4.2
  go_wp2
  clear fz4
  have HB0 : Hid (Bx w (w1.setCell ⟨w.heap.size, 4, none⟩ (.slice none 0 0)) w.heap.size (w.heap.size + 1) ⟨k, t, nu, p, tk, tn, r, u⟩ none 0 0) := Lib.hid ⟨set9 X1.out.ho, by rw [Below.heap_setCell _ _ _ _ (by show w.heap.size + 1 ≠ w.heap.size; omega)]; exact X1.out.hr, by simp only [World.setCell, Array.size_modify]; exact X1.out.z, by simp only [World.setCell, Array.size_modify]; exact X1.out.zr, X1.out.bl.setCell (p := ⟨w.heap.size, 4, none⟩) (Nat.le_refl _) _⟩
  clear a0 a1 a2 a3 a4 a5 a6 a7 a8
  go_loopw [10] (fun ix wr => ∃ (i : Nat) (R : Fo) (B : Option Addr) (cb : Nat) (E : List El), ix = .int .i64 (i : Int) ∧ Rest (Lt w.heap.size) w A F i R ∧ R.All (FdA w) ∧ R.cnt ≤ F.cnt ∧ E.length = i ∧ (fo E).app (foF R) = foF F ∧ Bx w wr w.heap.size (w.heap.size + 1) ⟨k, t, nu, p, tk, tn, r, u⟩ B E.length cb ∧ Bld wr (w.heap.size + 1 + 1) B cb E) (fun ix _ => F.len - (intOf ix).toNat)
  case atStart => exact ⟨0, F, none, 0, [], rfl, HR.out, HI.out, Nat.le_refl _, rfl, rfl, HB0.out, Bld.nil _ _⟩
  case round =>
    obtain ⟨i, R, B, cb, E, rfl, hr, hP, hcn, hE, hs, hbx, hbd⟩ := hrel
    have hz := hbx.z
    have hzr := hbx.zr
    have HBX := Lib.hid hbx
    have HBD := Lib.hid hbd
    have HS := Lib.hid hs
    subst hE
    have HE : Hid True := trivial
    cases R with
    | nil =>
      have hi := hr.stop
      have hi0 : decide (E.length < F.len) = false := by rw [hi]; simp
      have hi00 : decide ((E.length : Int) < (F.len : Int)) = false := by rw [hi]; simp
      clear hi
      obtain ⟨a0, a1, a2, a3, a4, a5, a6, a7, a8⟩ := hbx.all
      simp only [Nat.zero_add] at a1 a2 a3 a4 a5 a6 a7 a8
      have hrz := HBX.out.hr
      obtain ⟨⟨r0, r1, r2, r3, r4, r5, r6, r7, r8⟩, f0, f1, f2, f3, f4, f5, f6, f7, f8⟩ := zero9 hrz
      clear hr hP hs hbx hbd hrz
      go_wp2
      have hbk := blk9 (h' := litH 0 0 0) (A' := none) (n' := 0) (c' := 0) (h := ⟨k, t, nu, p, tk, tn, r, u⟩) (A := B) (n := E.length) (c := cb) HBX.out.hr
      have h9 := nine w wr (w.heap.size + 1) (.int .i64 k) (.string t) (.int .i64 nu) (.int .i64 p) (.slice B E.length cb) (.int .i64 tk) (.string tn) (.int .i64 r) (.int .i64 u) rfl
      have hmd := made_of (w := w) (r := w.heap.size + 1) (h := ⟨k, t, nu, p, tk, tn, r, u⟩) (F := foF F) HBD.out (by have := HS.out; rwa [foF, Fo.app_nil] at this) (by omega) (by omega) ⟨h9.1, h9.2.1, h9.2.2 HBX.out.bl (by omega)⟩
      exact ret_cell Tryz.results41 (r := w.heap.size + 1) (h := ⟨k, t, nu, p, tk, tn, r, u⟩) (A := B) (n := E.length) (c := cb) rfl rfl hbk hmd
    | cons hd kd rr =>
      obtain ⟨g, o, A', cap', rfl, ⟨c0, c1, c2, c3, c4, c5, c6, c7, c8⟩, hkc, hk', hr', hi1, hg⟩ := (hr.below hbx.bl (Nat.le_refl _)).next
      have hrw := hr.tail
      obtain ⟨q4, f4⟩ := hbx.c4
      have HRR := Lib.hid hrw
      have HK := Lib.hid hk'
      obtain ⟨p1, p2⟩ := hP
      have HP1 := Lib.hid p1
      have HP2 := Lib.hid p2
      simp only [Fo.cnt] at hcn
      have hj : (E.length : Int) < (F.len : Int) := by omega
      have hEl : E.length + 1 ≤ 1048576 := by omega
      have hzz : w.heap.size ≤ wr.heap.size := by omega
      have hB0 : w.heap.size + 1 + 1 ≤ wr.heap.size := by omega
      have hgn : ¬ g = w.heap.size := by have : g < w.heap.size := hg; omega
      clear hr hr' hrw hk' p1 p2 hbx hbd hs hg
      have HCC : Hid (Calls Tryz.prog 41 #[nv hd A' kd.len cap'] wr.drew fun e w2 => ∃ A2 cap2, e = .returned (nv (foT hd kd).1 A2 (foT hd kd).2.len cap2) ∧ Aft w wr w2 w.heap.size (w.heap.size + 1) (w.heap.size + 1 + 1) ⟨k, t, nu, p, tk, tn, r, u⟩ B cb E ⟨(foT hd kd).1, (foT hd kd).2, A2, cap2⟩) :=
        Lib.hid ((HP1.out A' cap' wr.drew (HK.out.drew hzz)).mono fun e w2 hm => aft_plain (W := wr.drew) HBX.out HBD.out hzz hB0 rfl rfl rfl rfl hm)
      obtain ⟨m, hm2⟩ : ∃ m, (foT hd kd).2.len = m := ⟨_, rfl⟩
      have HM := Lib.hid hm2
      rw [hm2] at HCC
      clear hm2
      go_wp2
      go_region_law (first
        | (refine step_append_lies _ (by rfl) _ _ _ (by rfl) (w.heap.size + 1 + 1) 26 i0 _ 9 104 Tryz.underlying22 hi hz0 hz1 hz2 rfl (by omega) (.slice B E.length cb) E.length (ecells E) (by rfl) (HQ.out.d.own.alloc _) ⟨w2.heap.size, 0, none⟩ 1 1 (hc (foT hd kd).1 A2 m cap2) (by rfl) (by rfl) (World.news_of_block (cs := nc (foT hd kd).1 A2 m cap2) (t := 26) (fr := (0, 0)) (heap_alloc_new w2 _)) (by simp [Value.oneCell', hc]) (by omega) (by unfold maxLen; omega) (by omega) (by have := HQ.out.z; simp; omega) (w2.heap.size + 1) (by simp) ?_; intro g1 cap1 w4 hown1 hgrow1 hat1 hlt1; have hpa := push_all HQ.out hzz (by omega) (by omega) (by omega) (by omega) (HM.out ▸ hown1) hgrow1 hat1; have HPA := Lib.hid hpa; have q44 := hpa.1; have f44 := hpa.2.1; clear hpa hown1 hgrow1 hat1)
        | (go_simp; go_at_call 41; refine HCC.out.mono ?_; rintro e w2 ⟨A2, cap2, rfl, hq⟩; have HQ := Lib.hid hq; have q42 := hq.x.c4.1; have z42 := hq.x.z; clear hq))
      all_goals
        have HB4 := Lib.hid HPA.out.2.2
        clear HPA q44 f44
        go_wp2
        go_roundw
        case rel => exact ⟨E.length + 1, rr, some ⟨g1, 0, none⟩, cap1, E ++ [⟨(foT hd kd).1, (foT hd kd).2, A2, cap2⟩], by go_num, HRR.out, HP2.out, by omega, by simp, by rw [fo_app, Fo.app_assoc]; exact HS.out, HB4.out.1, HB4.out.2⟩
        case measure => simp [intOf]; omega

set_option maxHeartbeats 4000000 in
theorem fd_e0 (k : Int) (t : ByteArray) (nu p tk : Int) (tn : ByteArray) (r u : Int) (F : Fo) (A : Option Addr) (cap : Nat) (w : World) (ih : F.All (FdA w)) (hk : Kids (Lt w.heap.size) w A F) (hm : F.cnt ≤ 1048576) (HX : Hid (ExA ⟨k, t, nu, p, tk, tn, r, u⟩ A F.len cap w true)) (e18 : (k == 18) = false) (v : Int) (HC : Hid (KoA ⟨k, t, nu, p, tk, tn, r, u⟩ A F.len cap w v false)) :
    Calls Tryz.prog 41 #[nv ⟨k, t, nu, p, tk, tn, r, u⟩ A F.len cap] w (Made w ⟨k, t, nu, p, tk, tn, r, u⟩ (foF F)) := by
  have HI := Lib.hid ih
  have HR := Lib.hid (Rest.start hk)
  have hlen : F.len ≤ F.cnt := F.len_le_cnt
  have hfl : F.len ≤ 1048576 := by omega
  obtain ⟨i0, hi, hz0, hz1, hz2⟩ := info_parts info26
  clear ih hk
  have H0 := Lib.hid (bx_start w ⟨k, t, nu, p, tk, tn, r, u⟩ A F.len cap)
  go_enter Tryz.func41, Tryz.ntmps41
  go_wp2_with fail
  refine (HX.out _ H0.out.bl).mono ?_
  rintro e w1 ⟨rfl, hb1⟩
  have x1 := bx_keep H0.out hb1
  have X1 := Lib.hid x1
  obtain ⟨a0, a1, a2, a3, a4, a5, a6, a7, a8⟩ := x1.all
  simp only [Nat.zero_add] at a1 a2 a3 a4 a5 a6 a7 a8
  clear hb1 x1
  go_wp2_with fail
  refine (HC.out _ X1.out.bl).mono ?_
  rintro e w2 ⟨b, rfl, hb2⟩
  have x2 := bx_keep X1.out hb2
  have X2 := Lib.hid x2
  clear a0 a1 a2 a3 a4 a5 a6 a7 a8
  obtain ⟨a0, a1, a2, a3, a4, a5, a6, a7, a8⟩ := x2.all
  simp only [Nat.zero_add] at a1 a2 a3 a4 a5 a6 a7 a8
  clear hb2 x2
  have fz4 := X2.out.c4.2
  go_wp2
  clear fz4
  have HB0 : Hid (Bx w (w2.setCell ⟨w.heap.size, 4, none⟩ (.slice none 0 0)) w.heap.size (w.heap.size + 1) ⟨k, t, nu, p, tk, tn, r, u⟩ none 0 0) := Lib.hid ⟨set9 X2.out.ho, by rw [Below.heap_setCell _ _ _ _ (by show w.heap.size + 1 ≠ w.heap.size; omega)]; exact X2.out.hr, by simp only [World.setCell, Array.size_modify]; exact X2.out.z, by simp only [World.setCell, Array.size_modify]; exact X2.out.zr, X2.out.bl.setCell (p := ⟨w.heap.size, 4, none⟩) (Nat.le_refl _) _⟩
  clear a0 a1 a2 a3 a4 a5 a6 a7 a8
  go_loopw [10] (fun ix wr => ∃ (i : Nat) (R : Fo) (B : Option Addr) (cb : Nat) (E : List El), ix = .int .i64 (i : Int) ∧ Rest (Lt w.heap.size) w A F i R ∧ R.All (FdA w) ∧ R.cnt ≤ F.cnt ∧ E.length = i ∧ (fo E).app (foF R) = foF F ∧ Bx w wr w.heap.size (w.heap.size + 1) ⟨k, t, nu, p, tk, tn, r, u⟩ B E.length cb ∧ Bld wr (w.heap.size + 1 + 1) B cb E) (fun ix _ => F.len - (intOf ix).toNat)
  case atStart => exact ⟨0, F, none, 0, [], rfl, HR.out, HI.out, Nat.le_refl _, rfl, rfl, HB0.out, Bld.nil _ _⟩
  case round =>
    obtain ⟨i, R, B, cb, E, rfl, hr, hP, hcn, hE, hs, hbx, hbd⟩ := hrel
    have hz := hbx.z
    have hzr := hbx.zr
    have HBX := Lib.hid hbx
    have HBD := Lib.hid hbd
    have HS := Lib.hid hs
    subst hE
    have HE : Hid True := trivial
    cases R with
    | nil =>
      have hi := hr.stop
      have hi0 : decide (E.length < F.len) = false := by rw [hi]; simp
      have hi00 : decide ((E.length : Int) < (F.len : Int)) = false := by rw [hi]; simp
      clear hi
      obtain ⟨a0, a1, a2, a3, a4, a5, a6, a7, a8⟩ := hbx.all
      simp only [Nat.zero_add] at a1 a2 a3 a4 a5 a6 a7 a8
      have hrz := HBX.out.hr
      obtain ⟨⟨r0, r1, r2, r3, r4, r5, r6, r7, r8⟩, f0, f1, f2, f3, f4, f5, f6, f7, f8⟩ := zero9 hrz
      clear hr hP hs hbx hbd hrz
      go_wp2
      have hbk := blk9 (h' := litH 0 0 0) (A' := none) (n' := 0) (c' := 0) (h := ⟨k, t, nu, p, tk, tn, r, u⟩) (A := B) (n := E.length) (c := cb) HBX.out.hr
      have h9 := nine w wr (w.heap.size + 1) (.int .i64 k) (.string t) (.int .i64 nu) (.int .i64 p) (.slice B E.length cb) (.int .i64 tk) (.string tn) (.int .i64 r) (.int .i64 u) rfl
      have hmd := made_of (w := w) (r := w.heap.size + 1) (h := ⟨k, t, nu, p, tk, tn, r, u⟩) (F := foF F) HBD.out (by have := HS.out; rwa [foF, Fo.app_nil] at this) (by omega) (by omega) ⟨h9.1, h9.2.1, h9.2.2 HBX.out.bl (by omega)⟩
      exact ret_cell Tryz.results41 (r := w.heap.size + 1) (h := ⟨k, t, nu, p, tk, tn, r, u⟩) (A := B) (n := E.length) (c := cb) rfl rfl hbk hmd
    | cons hd kd rr =>
      obtain ⟨g, o, A', cap', rfl, ⟨c0, c1, c2, c3, c4, c5, c6, c7, c8⟩, hkc, hk', hr', hi1, hg⟩ := (hr.below hbx.bl (Nat.le_refl _)).next
      have hrw := hr.tail
      obtain ⟨q4, f4⟩ := hbx.c4
      have HRR := Lib.hid hrw
      have HK := Lib.hid hk'
      obtain ⟨p1, p2⟩ := hP
      have HP1 := Lib.hid p1
      have HP2 := Lib.hid p2
      simp only [Fo.cnt] at hcn
      have hj : (E.length : Int) < (F.len : Int) := by omega
      have hEl : E.length + 1 ≤ 1048576 := by omega
      have hzz : w.heap.size ≤ wr.heap.size := by omega
      have hB0 : w.heap.size + 1 + 1 ≤ wr.heap.size := by omega
      have hgn : ¬ g = w.heap.size := by have : g < w.heap.size := hg; omega
      clear hr hr' hrw hk' p1 p2 hbx hbd hs hg
      have HCC : Hid (Calls Tryz.prog 41 #[nv hd A' kd.len cap'] wr.drew fun e w2 => ∃ A2 cap2, e = .returned (nv (foT hd kd).1 A2 (foT hd kd).2.len cap2) ∧ Aft w wr w2 w.heap.size (w.heap.size + 1) (w.heap.size + 1 + 1) ⟨k, t, nu, p, tk, tn, r, u⟩ B cb E ⟨(foT hd kd).1, (foT hd kd).2, A2, cap2⟩) :=
        Lib.hid ((HP1.out A' cap' wr.drew (HK.out.drew hzz)).mono fun e w2 hm => aft_plain (W := wr.drew) HBX.out HBD.out hzz hB0 rfl rfl rfl rfl hm)
      obtain ⟨m, hm2⟩ : ∃ m, (foT hd kd).2.len = m := ⟨_, rfl⟩
      have HM := Lib.hid hm2
      rw [hm2] at HCC
      clear hm2
      go_wp2
      go_region_law (first
        | (refine step_append_lies _ (by rfl) _ _ _ (by rfl) (w.heap.size + 1 + 1) 26 i0 _ 9 104 Tryz.underlying22 hi hz0 hz1 hz2 rfl (by omega) (.slice B E.length cb) E.length (ecells E) (by rfl) (HQ.out.d.own.alloc _) ⟨w2.heap.size, 0, none⟩ 1 1 (hc (foT hd kd).1 A2 m cap2) (by rfl) (by rfl) (World.news_of_block (cs := nc (foT hd kd).1 A2 m cap2) (t := 26) (fr := (0, 0)) (heap_alloc_new w2 _)) (by simp [Value.oneCell', hc]) (by omega) (by unfold maxLen; omega) (by omega) (by have := HQ.out.z; simp; omega) (w2.heap.size + 1) (by simp) ?_; intro g1 cap1 w4 hown1 hgrow1 hat1 hlt1; have hpa := push_all HQ.out hzz (by omega) (by omega) (by omega) (by omega) (HM.out ▸ hown1) hgrow1 hat1; have HPA := Lib.hid hpa; have q44 := hpa.1; have f44 := hpa.2.1; clear hpa hown1 hgrow1 hat1)
        | (go_simp; go_at_call 41; refine HCC.out.mono ?_; rintro e w2 ⟨A2, cap2, rfl, hq⟩; have HQ := Lib.hid hq; have q42 := hq.x.c4.1; have z42 := hq.x.z; clear hq))
      all_goals
        have HB4 := Lib.hid HPA.out.2.2
        clear HPA q44 f44
        go_wp2
        go_roundw
        case rel => exact ⟨E.length + 1, rr, some ⟨g1, 0, none⟩, cap1, E ++ [⟨(foT hd kd).1, (foT hd kd).2, A2, cap2⟩], by go_num, HRR.out, HP2.out, by omega, by simp, by rw [fo_app, Fo.app_assoc]; exact HS.out, HB4.out.1, HB4.out.2⟩
        case measure => simp [intOf]; omega

set_option maxHeartbeats 4000000 in
theorem fd_e1 (k : Int) (t : ByteArray) (nu p tk : Int) (tn : ByteArray) (r u : Int) (F : Fo) (A : Option Addr) (cap : Nat) (w : World) (ih : F.All (FdA w)) (hk : Kids (Lt w.heap.size) w A F) (hm : F.cnt ≤ 1048576) (HX : Hid (ExA ⟨k, t, nu, p, tk, tn, r, u⟩ A F.len cap w true)) (e18 : (k == 18) = false) (HC : Hid (KoA ⟨k, t, nu, p, tk, tn, r, u⟩ A F.len cap w (-9223372036854775808) true)) :
    Calls Tryz.prog 41 #[nv ⟨k, t, nu, p, tk, tn, r, u⟩ A F.len cap] w (Made w ⟨k, t, nu, p, tk, tn, r, u⟩ (foF F)) := by
  have HI := Lib.hid ih
  have HR := Lib.hid (Rest.start hk)
  have hlen : F.len ≤ F.cnt := F.len_le_cnt
  have hfl : F.len ≤ 1048576 := by omega
  obtain ⟨i0, hi, hz0, hz1, hz2⟩ := info_parts info26
  clear ih hk
  have H0 := Lib.hid (bx_start w ⟨k, t, nu, p, tk, tn, r, u⟩ A F.len cap)
  go_enter Tryz.func41, Tryz.ntmps41
  go_wp2_with fail
  refine (HX.out _ H0.out.bl).mono ?_
  rintro e w1 ⟨rfl, hb1⟩
  have x1 := bx_keep H0.out hb1
  have X1 := Lib.hid x1
  obtain ⟨a0, a1, a2, a3, a4, a5, a6, a7, a8⟩ := x1.all
  simp only [Nat.zero_add] at a1 a2 a3 a4 a5 a6 a7 a8
  clear hb1 x1
  go_wp2_with fail
  refine (HC.out _ X1.out.bl).mono ?_
  rintro e w2 ⟨b, rfl, hb2⟩
  have x2 := bx_keep X1.out hb2
  have X2 := Lib.hid x2
  clear a0 a1 a2 a3 a4 a5 a6 a7 a8
  obtain ⟨a0, a1, a2, a3, a4, a5, a6, a7, a8⟩ := x2.all
  simp only [Nat.zero_add] at a1 a2 a3 a4 a5 a6 a7 a8
  clear hb2 x2
  have fz4 := X2.out.c4.2
  go_wp2
  clear fz4
  have HB0 : Hid (Bx w (w2.setCell ⟨w.heap.size, 4, none⟩ (.slice none 0 0)) w.heap.size (w.heap.size + 1) ⟨k, t, nu, p, tk, tn, r, u⟩ none 0 0) := Lib.hid ⟨set9 X2.out.ho, by rw [Below.heap_setCell _ _ _ _ (by show w.heap.size + 1 ≠ w.heap.size; omega)]; exact X2.out.hr, by simp only [World.setCell, Array.size_modify]; exact X2.out.z, by simp only [World.setCell, Array.size_modify]; exact X2.out.zr, X2.out.bl.setCell (p := ⟨w.heap.size, 4, none⟩) (Nat.le_refl _) _⟩
  clear a0 a1 a2 a3 a4 a5 a6 a7 a8
  go_loopw [10] (fun ix wr => ∃ (i : Nat) (R : Fo) (B : Option Addr) (cb : Nat) (E : List El), ix = .int .i64 (i : Int) ∧ Rest (Lt w.heap.size) w A F i R ∧ R.All (FdA w) ∧ R.cnt ≤ F.cnt ∧ E.length = i ∧ (fo E).app (foF R) = foF F ∧ Bx w wr w.heap.size (w.heap.size + 1) ⟨k, t, nu, p, tk, tn, r, u⟩ B E.length cb ∧ Bld wr (w.heap.size + 1 + 1) B cb E) (fun ix _ => F.len - (intOf ix).toNat)
  case atStart => exact ⟨0, F, none, 0, [], rfl, HR.out, HI.out, Nat.le_refl _, rfl, rfl, HB0.out, Bld.nil _ _⟩
  case round =>
    obtain ⟨i, R, B, cb, E, rfl, hr, hP, hcn, hE, hs, hbx, hbd⟩ := hrel
    have hz := hbx.z
    have hzr := hbx.zr
    have HBX := Lib.hid hbx
    have HBD := Lib.hid hbd
    have HS := Lib.hid hs
    subst hE
    have HE : Hid True := trivial
    cases R with
    | nil =>
      have hi := hr.stop
      have hi0 : decide (E.length < F.len) = false := by rw [hi]; simp
      have hi00 : decide ((E.length : Int) < (F.len : Int)) = false := by rw [hi]; simp
      clear hi
      obtain ⟨a0, a1, a2, a3, a4, a5, a6, a7, a8⟩ := hbx.all
      simp only [Nat.zero_add] at a1 a2 a3 a4 a5 a6 a7 a8
      have hrz := HBX.out.hr
      obtain ⟨⟨r0, r1, r2, r3, r4, r5, r6, r7, r8⟩, f0, f1, f2, f3, f4, f5, f6, f7, f8⟩ := zero9 hrz
      clear hr hP hs hbx hbd hrz
      go_wp2
      have hbk := blk9 (h' := litH 0 0 0) (A' := none) (n' := 0) (c' := 0) (h := ⟨k, t, nu, p, tk, tn, r, u⟩) (A := B) (n := E.length) (c := cb) HBX.out.hr
      have h9 := nine w wr (w.heap.size + 1) (.int .i64 k) (.string t) (.int .i64 nu) (.int .i64 p) (.slice B E.length cb) (.int .i64 tk) (.string tn) (.int .i64 r) (.int .i64 u) rfl
      have hmd := made_of (w := w) (r := w.heap.size + 1) (h := ⟨k, t, nu, p, tk, tn, r, u⟩) (F := foF F) HBD.out (by have := HS.out; rwa [foF, Fo.app_nil] at this) (by omega) (by omega) ⟨h9.1, h9.2.1, h9.2.2 HBX.out.bl (by omega)⟩
      exact ret_cell Tryz.results41 (r := w.heap.size + 1) (h := ⟨k, t, nu, p, tk, tn, r, u⟩) (A := B) (n := E.length) (c := cb) rfl rfl hbk hmd
    | cons hd kd rr =>
      obtain ⟨g, o, A', cap', rfl, ⟨c0, c1, c2, c3, c4, c5, c6, c7, c8⟩, hkc, hk', hr', hi1, hg⟩ := (hr.below hbx.bl (Nat.le_refl _)).next
      have hrw := hr.tail
      obtain ⟨q4, f4⟩ := hbx.c4
      have HRR := Lib.hid hrw
      have HK := Lib.hid hk'
      obtain ⟨p1, p2⟩ := hP
      have HP1 := Lib.hid p1
      have HP2 := Lib.hid p2
      simp only [Fo.cnt] at hcn
      have hj : (E.length : Int) < (F.len : Int) := by omega
      have hEl : E.length + 1 ≤ 1048576 := by omega
      have hzz : w.heap.size ≤ wr.heap.size := by omega
      have hB0 : w.heap.size + 1 + 1 ≤ wr.heap.size := by omega
      have hgn : ¬ g = w.heap.size := by have : g < w.heap.size := hg; omega
      clear hr hr' hrw hk' p1 p2 hbx hbd hs hg
      have HCC : Hid (Calls Tryz.prog 41 #[nv hd A' kd.len cap'] wr.drew fun e w2 => ∃ A2 cap2, e = .returned (nv (foT hd kd).1 A2 (foT hd kd).2.len cap2) ∧ Aft w wr w2 w.heap.size (w.heap.size + 1) (w.heap.size + 1 + 1) ⟨k, t, nu, p, tk, tn, r, u⟩ B cb E ⟨(foT hd kd).1, (foT hd kd).2, A2, cap2⟩) :=
        Lib.hid ((HP1.out A' cap' wr.drew (HK.out.drew hzz)).mono fun e w2 hm => aft_plain (W := wr.drew) HBX.out HBD.out hzz hB0 rfl rfl rfl rfl hm)
      obtain ⟨m, hm2⟩ : ∃ m, (foT hd kd).2.len = m := ⟨_, rfl⟩
      have HM := Lib.hid hm2
      rw [hm2] at HCC
      clear hm2
      go_wp2
      go_region_law (first
        | (refine step_append_lies _ (by rfl) _ _ _ (by rfl) (w.heap.size + 1 + 1) 26 i0 _ 9 104 Tryz.underlying22 hi hz0 hz1 hz2 rfl (by omega) (.slice B E.length cb) E.length (ecells E) (by rfl) (HQ.out.d.own.alloc _) ⟨w2.heap.size, 0, none⟩ 1 1 (hc (foT hd kd).1 A2 m cap2) (by rfl) (by rfl) (World.news_of_block (cs := nc (foT hd kd).1 A2 m cap2) (t := 26) (fr := (0, 0)) (heap_alloc_new w2 _)) (by simp [Value.oneCell', hc]) (by omega) (by unfold maxLen; omega) (by omega) (by have := HQ.out.z; simp; omega) (w2.heap.size + 1) (by simp) ?_; intro g1 cap1 w4 hown1 hgrow1 hat1 hlt1; have hpa := push_all HQ.out hzz (by omega) (by omega) (by omega) (by omega) (HM.out ▸ hown1) hgrow1 hat1; have HPA := Lib.hid hpa; have q44 := hpa.1; have f44 := hpa.2.1; clear hpa hown1 hgrow1 hat1)
        | (go_simp; go_at_call 41; refine HCC.out.mono ?_; rintro e w2 ⟨A2, cap2, rfl, hq⟩; have HQ := Lib.hid hq; have q42 := hq.x.c4.1; have z42 := hq.x.z; clear hq))
      all_goals
        have HB4 := Lib.hid HPA.out.2.2
        clear HPA q44 f44
        go_wp2
        go_roundw
        case rel => exact ⟨E.length + 1, rr, some ⟨g1, 0, none⟩, cap1, E ++ [⟨(foT hd kd).1, (foT hd kd).2, A2, cap2⟩], by go_num, HRR.out, HP2.out, by omega, by simp, by rw [fo_app, Fo.app_assoc]; exact HS.out, HB4.out.1, HB4.out.2⟩
        case measure => simp [intOf]; omega

set_option maxHeartbeats 4000000 in
theorem fd_i0 (t : ByteArray) (nu p tk : Int) (tn : ByteArray) (r u : Int) (F : Fo) (A : Option Addr) (cap : Nat) (w : World) (ih : F.All (FdA w)) (hk : Kids (Lt w.heap.size) w A F) (hm : F.cnt ≤ 1048576) (HX : Hid (ExA ⟨18, t, nu, p, tk, tn, r, u⟩ A F.len cap w false)) (g9 o9 : Nat) (hA9 : A = some ⟨g9, o9, none⟩) (h0 : Hd) (A0 : Option Addr) (n0 k0 : Nat) (d : At9 w g9 o9 h0 A0 n0 k0) (hg9 : g9 < w.heap.size) (h3 : 0 < F.len) (v : Int) (HC : Hid (KoA h0 A0 n0 k0 w v false)) :
    Calls Tryz.prog 41 #[nv ⟨18, t, nu, p, tk, tn, r, u⟩ A F.len cap] w (Made w ⟨18, t, nu, p, tk, tn, r, u⟩ (foF F)) := by
  have HI := Lib.hid ih
  have HR := Lib.hid (Rest.start hk)
  have hlen : F.len ≤ F.cnt := F.len_le_cnt
  have hfl : F.len ≤ 1048576 := by omega
  obtain ⟨i0, hi, hz0, hz1, hz2⟩ := info_parts info26
  clear ih hk
  subst hA9
  have HD := Lib.hid d
  clear d
  have H0 := Lib.hid (bx_start w ⟨18, t, nu, p, tk, tn, r, u⟩ (some ⟨g9, o9, none⟩) F.len cap)
  go_enter Tryz.func41, Tryz.ntmps41
  go_wp2_with fail
  refine (HX.out _ H0.out.bl).mono ?_
  rintro e w1 ⟨rfl, hb1⟩
  have x1 := bx_keep H0.out hb1
  have X1 := Lib.hid x1
  obtain ⟨a0, a1, a2, a3, a4, a5, a6, a7, a8⟩ := x1.all
  simp only [Nat.zero_add] at a1 a2 a3 a4 a5 a6 a7 a8
  clear hb1 x1
  obtain ⟨d0, d1, d2, d3, d4, d5, d6, d7, d8⟩ := HD.out.carry (X1.out.bl.block g9 hg9)
  have g1 : ¬ g9 = w.heap.size := by omega
  have h3' : (0 : Int) < (F.len : Int) := by omega
  go_wp2_with fail
  refine (HC.out _ X1.out.bl).mono ?_
  rintro e w2 ⟨b, rfl, hb2⟩
  have x2 := bx_keep X1.out hb2
  have X2 := Lib.hid x2
  clear a0 a1 a2 a3 a4 a5 a6 a7 a8
  obtain ⟨a0, a1, a2, a3, a4, a5, a6, a7, a8⟩ := x2.all
  simp only [Nat.zero_add] at a1 a2 a3 a4 a5 a6 a7 a8
  clear hb2 x2
  clear d0 d1 d2 d3 d4 d5 d6 d7 d8 h3'
  have fz4 := X2.out.c4.2
  go_wp2
  clear fz4
  have HB0 : Hid (Bx w (w2.setCell ⟨w.heap.size, 4, none⟩ (.slice none 0 0)) w.heap.size (w.heap.size + 1) ⟨18, t, nu, p, tk, tn, r, u⟩ none 0 0) := Lib.hid ⟨set9 X2.out.ho, by rw [Below.heap_setCell _ _ _ _ (by show w.heap.size + 1 ≠ w.heap.size; omega)]; exact X2.out.hr, by simp only [World.setCell, Array.size_modify]; exact X2.out.z, by simp only [World.setCell, Array.size_modify]; exact X2.out.zr, X2.out.bl.setCell (p := ⟨w.heap.size, 4, none⟩) (Nat.le_refl _) _⟩
  clear a0 a1 a2 a3 a4 a5 a6 a7 a8
  go_loopw [10] (fun ix wr => ∃ (i : Nat) (R : Fo) (B : Option Addr) (cb : Nat) (E : List El), ix = .int .i64 (i : Int) ∧ Rest (Lt w.heap.size) w (some ⟨g9, o9, none⟩) F i R ∧ R.All (FdA w) ∧ R.cnt ≤ F.cnt ∧ E.length = i ∧ (fo E).app (foF R) = foF F ∧ Bx w wr w.heap.size (w.heap.size + 1) ⟨18, t, nu, p, tk, tn, r, u⟩ B E.length cb ∧ Bld wr (w.heap.size + 1 + 1) B cb E) (fun ix _ => F.len - (intOf ix).toNat)
  case atStart => exact ⟨0, F, none, 0, [], rfl, HR.out, HI.out, Nat.le_refl _, rfl, rfl, HB0.out, Bld.nil _ _⟩
  case round =>
    obtain ⟨i, R, B, cb, E, rfl, hr, hP, hcn, hE, hs, hbx, hbd⟩ := hrel
    have hz := hbx.z
    have hzr := hbx.zr
    have HBX := Lib.hid hbx
    have HBD := Lib.hid hbd
    have HS := Lib.hid hs
    subst hE
    have HE : Hid True := trivial
    cases R with
    | nil =>
      have hi := hr.stop
      have hi0 : decide (E.length < F.len) = false := by rw [hi]; simp
      have hi00 : decide ((E.length : Int) < (F.len : Int)) = false := by rw [hi]; simp
      clear hi
      obtain ⟨a0, a1, a2, a3, a4, a5, a6, a7, a8⟩ := hbx.all
      simp only [Nat.zero_add] at a1 a2 a3 a4 a5 a6 a7 a8
      have hrz := HBX.out.hr
      obtain ⟨⟨r0, r1, r2, r3, r4, r5, r6, r7, r8⟩, f0, f1, f2, f3, f4, f5, f6, f7, f8⟩ := zero9 hrz
      clear hr hP hs hbx hbd hrz
      go_wp2
      have hbk := blk9 (h' := litH 0 0 0) (A' := none) (n' := 0) (c' := 0) (h := ⟨18, t, nu, p, tk, tn, r, u⟩) (A := B) (n := E.length) (c := cb) HBX.out.hr
      have h9 := nine w wr (w.heap.size + 1) (.int .i64 18) (.string t) (.int .i64 nu) (.int .i64 p) (.slice B E.length cb) (.int .i64 tk) (.string tn) (.int .i64 r) (.int .i64 u) rfl
      have hmd := made_of (w := w) (r := w.heap.size + 1) (h := ⟨18, t, nu, p, tk, tn, r, u⟩) (F := foF F) HBD.out (by have := HS.out; rwa [foF, Fo.app_nil] at this) (by omega) (by omega) ⟨h9.1, h9.2.1, h9.2.2 HBX.out.bl (by omega)⟩
      exact ret_cell Tryz.results41 (r := w.heap.size + 1) (h := ⟨18, t, nu, p, tk, tn, r, u⟩) (A := B) (n := E.length) (c := cb) rfl rfl hbk hmd
    | cons hd kd rr =>
      obtain ⟨g, o, A', cap', hA9, ⟨c0, c1, c2, c3, c4, c5, c6, c7, c8⟩, hkc, hk', hr', hi1, hg⟩ := (hr.below hbx.bl (Nat.le_refl _)).next
      obtain ⟨rfl, rfl⟩ : g9 = g ∧ o9 = o := by cases hA9; exact ⟨rfl, rfl⟩
      clear hA9
      have hrw := hr.tail
      obtain ⟨q4, f4⟩ := hbx.c4
      have HRR := Lib.hid hrw
      have HK := Lib.hid hk'
      obtain ⟨p1, p2⟩ := hP
      have HP1 := Lib.hid p1
      have HP2 := Lib.hid p2
      simp only [Fo.cnt] at hcn
      have hj : (E.length : Int) < (F.len : Int) := by omega
      have hEl : E.length + 1 ≤ 1048576 := by omega
      have hzz : w.heap.size ≤ wr.heap.size := by omega
      have hB0 : w.heap.size + 1 + 1 ≤ wr.heap.size := by omega
      have hgn : ¬ g9 = w.heap.size := by omega
      clear hr hr' hrw hk' p1 p2 hbx hbd hs hg
      have HCC : Hid (Calls Tryz.prog 41 #[nv hd A' kd.len cap'] wr.drew fun e w2 => ∃ A2 cap2, e = .returned (nv (foT hd kd).1 A2 (foT hd kd).2.len cap2) ∧ Aft w wr w2 w.heap.size (w.heap.size + 1) (w.heap.size + 1 + 1) ⟨18, t, nu, p, tk, tn, r, u⟩ B cb E ⟨(foT hd kd).1, (foT hd kd).2, A2, cap2⟩) :=
        Lib.hid ((HP1.out A' cap' wr.drew (HK.out.drew hzz)).mono fun e w2 hm => aft_plain (W := wr.drew) HBX.out HBD.out hzz hB0 rfl rfl rfl rfl hm)
      obtain ⟨m, hm2⟩ : ∃ m, (foT hd kd).2.len = m := ⟨_, rfl⟩
      have HM := Lib.hid hm2
      rw [hm2] at HCC
      clear hm2
      go_wp2
      go_region_law (first
        | (refine step_append_lies _ (by rfl) _ _ _ (by rfl) (w.heap.size + 1 + 1) 26 i0 _ 9 104 Tryz.underlying22 hi hz0 hz1 hz2 rfl (by omega) (.slice B E.length cb) E.length (ecells E) (by rfl) (HQ.out.d.own.alloc _) ⟨w2.heap.size, 0, none⟩ 1 1 (hc (foT hd kd).1 A2 m cap2) (by rfl) (by rfl) (World.news_of_block (cs := nc (foT hd kd).1 A2 m cap2) (t := 26) (fr := (0, 0)) (heap_alloc_new w2 _)) (by simp [Value.oneCell', hc]) (by omega) (by unfold maxLen; omega) (by omega) (by have := HQ.out.z; simp; omega) (w2.heap.size + 1) (by simp) ?_; intro g1 cap1 w4 hown1 hgrow1 hat1 hlt1; have hpa := push_all HQ.out hzz (by omega) (by omega) (by omega) (by omega) (HM.out ▸ hown1) hgrow1 hat1; have HPA := Lib.hid hpa; have q44 := hpa.1; have f44 := hpa.2.1; clear hpa hown1 hgrow1 hat1)
        | (go_simp; go_at_call 41; refine HCC.out.mono ?_; rintro e w2 ⟨A2, cap2, rfl, hq⟩; have HQ := Lib.hid hq; have q42 := hq.x.c4.1; have z42 := hq.x.z; clear hq))
      all_goals
        have HB4 := Lib.hid HPA.out.2.2
        clear HPA q44 f44
        go_wp2
        go_roundw
        case rel => exact ⟨E.length + 1, rr, some ⟨g1, 0, none⟩, cap1, E ++ [⟨(foT hd kd).1, (foT hd kd).2, A2, cap2⟩], by go_num, HRR.out, HP2.out, by omega, by simp, by rw [fo_app, Fo.app_assoc]; exact HS.out, HB4.out.1, HB4.out.2⟩
        case measure => simp [intOf]; omega

end Go.Proofs.YtnknphchjmnkcaaGreatDoor
