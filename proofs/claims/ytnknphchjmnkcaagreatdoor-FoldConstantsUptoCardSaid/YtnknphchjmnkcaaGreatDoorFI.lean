/-
  The walk of the program's rebuilt, at the function value folded (package fold).
-/
import Derived.Test.YtnknphchjmnkcaaGreatDoorFH
set_option linter.all false
namespace Go.Proofs.YtnknphchjmnkcaaGreatDoor
open Go.RowKit T T.Fo
theorem Bx.grown {w W w4 : World} {b r n cap : Nat} {h : Hd} {A : Option Addr} {v : Value} (H : Bx w W b r h A n cap) (hgr : W.grownBy w4 v.ownBlock) (hb : v.ownBlock ≠ some b) (hr : v.ownBlock ≠ some r) (hw : w.heap.size ≤ W.heap.size) (hlt : ∀ g, v.ownBlock = some g → w.heap.size ≤ g) : Bx w w4 b r h A n cap :=
  have h3 := hgr.size
  ⟨(hgr.block b H.z (fun e => hb e.symm)).trans H.ho, (hgr.block r H.zr (fun e => hr e.symm)).trans H.hr, by have := H.z; omega, by have := H.zr; omega, H.bl.grown hgr hw hlt⟩
/-- What stands in rebuilt behind the call for a child. -/
structure AftR (w wr w2 : World) (D : Nat) (h : Hd) (A : Option Addr) (n cap : Nat) (B : Option Addr) (cb : Nat) (E : List El) (e : El) : Prop where
  x : Bx w w2 w.heap.size (w.heap.size + 1) h A n cap
  d : Bld w2 D B cb E
  z : wr.heap.size ≤ w2.heap.size
  hc : e.k.len ≤ e.cap
  k : Kids (fun b => Rng D w2.heap.size b ∧ (Value.slice B E.length cb).ownBlock ≠ some b) w2 e.A e.k
theorem aftR {w wr W w2 : World} {D n cap cb : Nat} {h h' : Hd} {F : Fo} {A B : Option Addr} {E : List El} {o : Obj} {e : Ending} (HX : Bx w wr w.heap.size (w.heap.size + 1) h A n cap) (HD : Bld wr D B cb E) (hw : w.heap.size ≤ wr.heap.size) (hD : D ≤ wr.heap.size)
    (hW : W = wr.alloc o) (hm : Made W h' F e w2) : ∃ A2 cap2, e = .returned (nv h' A2 F.len cap2) ∧ AftR w wr w2 D h A n cap B cb E ⟨h', F, A2, cap2⟩ := by
  subst hW
  obtain ⟨A2, cap2, he, hc2, hk, hb⟩ := hm
  have hs : (wr.alloc o).heap.size = wr.heap.size + 1 := by simp
  have h2 : Below wr.heap.size wr w2 := (fb1 wr o).trans (hb.mono (by omega))
  refine ⟨A2, cap2, he, HX.below h2 hw, HD.below h2, h2.size, hc2, hk.carry fun b hS => ⟨⟨⟨?_, hS.2⟩, fun e => ?_⟩, rfl⟩⟩
  · have := hS.1; omega
  · have := (HD.lt e).2
    have := hS.1
    omega
theorem pushR {w wr w2 w4 : World} {D n cap cb g1 cap1 : Nat} {h : Hd} {A B : Option Addr} {E : List El} {e : El} {o : Obj} (H : AftR w wr w2 D h A n cap B cb E e) (hw : w.heap.size ≤ wr.heap.size) (hD : w.heap.size + 1 < D)
    (hown : w4.ownsRow D 26 9 (.slice (some ⟨g1, 0, none⟩) (E.length + 1) cap1) (E.length + 1) (ecells E ++ hc e.h e.A e.k.len e.cap)) (hgr : (w2.alloc o).grownBy w4 (Value.slice B E.length cb).ownBlock) (hat : (Value.slice B E.length cb).ownBlock = some g1 ∨ g1 = w2.heap.size + 1) :
    Bx w w4 w.heap.size (w.heap.size + 1) h A n cap ∧ Bld w4 D (some ⟨g1, 0, none⟩) cap1 (E ++ [e]) := by
  have hX : Bx w (w2.alloc o) w.heap.size (w.heap.size + 1) h A n cap := H.x.below (fb1 _ _) (by have := H.z; omega)
  have hne : ∀ x, x < D → (Value.slice B E.length cb).ownBlock ≠ some x := fun x hx e => by have := (H.d.lt e).1; omega
  exact ⟨hX.grown hgr (hne _ (by omega)) (hne _ (by omega)) (by have := H.z; simp; omega) (fun g hg => by have := (H.d.lt hg).1; omega), Bld.push (W := w2.alloc o) (o := o) H.d H.hc H.k rfl rfl hown hgr hat⟩
/-- The function value folded. -/
abbrev fv40 : Value := .func (.func 40) #[] #[]
/-- What is known of a row: permitted, of numbers of 64 bits, not deep. -/
def Vd (nm : ByteArray → Bool) (F : Fo) : Prop := okF nm F = true ∧ F.AllH rgH ∧ F.dep ≤ 60000
theorem Vd.head {nm : ByteArray → Bool} {h : Hd} {k r : Fo} (H : Vd nm (.cons h k r)) : okT nm h k = true ∧ rgH h ∧ Vd nm k ∧ Vd nm r := by
  obtain ⟨a, ⟨b1, b2, b3⟩, c⟩ := H
  rw [okF_cons, Bool.and_eq_true] at a
  simp only [Fo.dep] at c
  exact ⟨a.1, b1, ⟨(okT_parts a.1).2.2.2, b2, by omega⟩, a.2, b3, by omega⟩
/-- rebuilt's contract at a tree. -/
def RbP (nm : ByteArray → Bool) (h : Hd) (F : Fo) : Prop := okT nm h F = true → rgH h → Vd nm F → F.cnt + 1 ≤ 1048576 → ∀ (A : Option Addr) (cap : Nat) (w : World), Kids (Lt w.heap.size) w A F →
    Calls Tryz.prog 39 #[nv h A F.len cap, fv40] w (Made w (foT h F).1 (foT h F).2)
theorem made_gets {S : Nat → Prop} {w w1 : World} {D : Nat} {h : Hd} {k : Fo} {A : Option Addr} {cap : Nat} {wr W : World} (hD : w.heap.size + 1 < D) (hS : ∀ b, S b → D ≤ b ∧ b < wr.heap.size) (hzr : D ≤ wr.heap.size) (hk : Kids (fun b => S b ∨ Rng wr.heap.size w1.heap.size b) w1 A k) (hc : k.len ≤ cap) (hb0 : Below w.heap.size w wr) (hb1 : Below wr.heap.size wr w1)
    (h9 : (∀ b, b ≠ w.heap.size + 1 → W.heap[b]? = w1.heap[b]?) ∧ W.heap.size = w1.heap.size ∧ (Below w.heap.size w w1 → w.heap.size ≤ w.heap.size + 1 → Below w.heap.size w W)) : Made w h k (.returned (nv h A k.len cap)) W :=
  ⟨A, cap, rfl, hc, hk.carry fun b hb => by
    have hs := hb1.size
    rcases hb with hb | hb
    · have := hS b hb
      exact ⟨⟨by omega, by rw [h9.2.1]; omega⟩, h9.1 b (by omega)⟩
    · exact ⟨⟨by have := hb.1; omega, by rw [h9.2.1]; exact hb.2⟩, h9.1 b (by have := hb.1; omega)⟩, h9.2.2 (hb0.trans (hb1.mono (by omega))) (by omega)⟩
set_option maxRecDepth 100000 in
set_option maxHeartbeats 2000000 in
theorem rebuilt_w (nm : ByteArray → Bool) (h : Hd) (F : Fo) (ih : F.All (RbP nm)) : RbP nm h F := by
  intro hT hr hV hm A cap w hk
  have HI := Lib.hid ih
  have HR := Lib.hid (Rest.start hk)
  have HV := Lib.hid hV
  have hlen : F.len ≤ F.cnt := F.len_le_cnt
  have hfl : F.len ≤ 1048576 := by omega
  have h3 : h.kind = 18 → F.len = 3 := fun e => if_len hT e
  have hsm := fo_small F hV.1 hV.2.1
  have hrg := fo_rg F hV.1 hV.2.1
  have HFO : Hid (∀ (E : List El) (B : Option Addr) (cb : Nat) (wr : World), fo E = foF F → Bld wr (w.heap.size + 1 + 1) B cb E → Calls Tryz.prog 40 #[nv h A F.len cap, .slice B E.length cb] wr (Gets (Rng (w.heap.size + 1 + 1) wr.heap.size) (foT h F).1 (foT h F).2 wr)) := Lib.hid fun E B cb wr hE hb => by
    obtain ⟨hk1, hc1⟩ := hb.done
    have hl : E.length = (foF F).len := by rw [← hE, fo_len]
    rw [hE] at hk1
    rw [hl]
    exact folded_any h (foF F) A F.len cap B cb wr (fun b hb => hb.2) hk1 (by omega) (fun e => by rw [foF_len]; exact h3 e) (by have := hV.2.2; omega) hr hrg
  obtain ⟨i0, hi, hz0, hz1, hz2⟩ := info_parts info26
  clear ih hk hT hr hV h3 hsm hrg
  go_enter Tryz.func39, Tryz.ntmps39
  go_wp2
  have HB0 : Hid (Bx w ((w.alloc (.cells (nc h A F.len cap) 26)).alloc (.cells nc0 26)) w.heap.size (w.heap.size + 1) h A F.len cap) := by
    refine Lib.hid ⟨?_, ?_, by simp only [World.size_alloc]; omega, by simp only [World.size_alloc]; omega, (fb1 w _).trans ((fb1 _ _).mono (by simp))⟩
    · rw [Below.heap_alloc _ _ _ (by simp)]; exact heap_alloc_new _ _
    · have := heap_alloc_new (w.alloc (.cells (nc h A F.len cap) 26)) (.cells nc0 26)
      simpa using this
  go_loopw [5, 11] (fun kx ix wr => ∃ (i : Nat) (R : Fo) (B : Option Addr) (cb : Nat) (E : List El), kx = .slice B E.length cb ∧ ix = .int .i64 (i : Int) ∧ Rest (Lt w.heap.size) w A F i R ∧ R.All (RbP nm) ∧ R.cnt ≤ F.cnt ∧ Vd nm R ∧ E.length = i ∧ (fo E).app (foF R) = foF F ∧ Bx w wr w.heap.size (w.heap.size + 1) h A F.len cap ∧ Bld wr (w.heap.size + 1 + 1) B cb E) (fun _ ix _ => F.len - (intOf ix).toNat)
  case atStart => exact ⟨0, F, none, 0, [], rfl, rfl, HR.out, HI.out, Nat.le_refl _, HV.out, rfl, rfl, HB0.out, Bld.nil _ _⟩
  case round =>
    obtain ⟨i, R, B, cb, E, rfl, rfl, hr, hP, hcn, hVR, hE, hs, hbx, hbd⟩ := hrel
    have hz := hbx.z
    have HBX := Lib.hid hbx
    have HBD := Lib.hid hbd
    have HS := Lib.hid hs
    subst hE
    have HE : Hid True := trivial
    cases R with
    | nil =>
      have hi := hr.stop
      have hi0 : decide (E.length < F.len) = false := by rw [hi]; simp
      have hi00 : decide ((E.length : Int) < (F.len : Int)) = false := by rw [hi]; simp
      have HF := Lib.hid (HFO.out E B cb wr (by have := HS.out; rwa [foF, Fo.app_nil] at this) HBD.out)
      obtain ⟨a0, a1, a2, a3, a4, a5, a6, a7, a8⟩ := hbx.all
      simp only [Nat.zero_add] at a1 a2 a3 a4 a5 a6 a7 a8
      clear hi hr hP hs hbx hbd hVR
      go_wp2_with fail
      refine HF.out.mono ?_
      rintro e w1 ⟨A', c', rfl, hl, hk1, hb1⟩
      have HB1 := Lib.hid hb1
      have HK1 := Lib.hid hk1
      have hrz : w1.heap[w.heap.size + 1]? = some (.cells nc0 26 (0, 0)) := (hb1.block _ HBX.out.zr).trans HBX.out.hr
      obtain ⟨⟨r0, r1, r2, r3, r4, r5, r6, r7, r8⟩, f0, f1, f2, f3, f4, f5, f6, f7, f8⟩ := zero9 hrz
      have HRZ := Lib.hid hrz
      have HL := Lib.hid hl
      obtain ⟨m, hm2⟩ : ∃ m, (foT h F).2.len = m := ⟨_, rfl⟩
      have HM := Lib.hid hm2
      rw [hm2]
      have zz : w.heap.size + 1 < w1.heap.size := by have := hb1.size; have := HBX.out.zr; omega
      clear hb1 hk1 hrz hl hm2 a0 a1 a2 a3 a4 a5 a6 a7 a8
      go_wp2
      have hbk := blk9 (h' := litH 0 0 0) (A' := none) (n' := 0) (c' := 0) (h := (foT h F).1) (A := A') (n := m) (c := c') HRZ.out
      exact ret_cell Tryz.results39 (r := w.heap.size + 1) (h := (foT h F).1) (A := A') (n := m) (c := c') rfl rfl hbk (HM.out ▸ made_gets (D := w.heap.size + 1 + 1) (by omega) (fun b hb => hb) (by have := HBX.out.zr; omega) HK1.out HL.out HBX.out.bl HB1.out (nine w w1 (w.heap.size + 1) _ _ _ _ _ _ _ _ _ rfl))
    | cons hd kd rr =>
      obtain ⟨g, o, A', cap', rfl, ⟨c0, c1, c2, c3, c4, c5, c6, c7, c8⟩, hkc, hk', hr', hi1, hg⟩ := (hr.below hbx.bl (Nat.le_refl _)).next
      have hrw := hr.tail
      have HRR := Lib.hid hrw
      have HK := Lib.hid hk'
      obtain ⟨p1, p2⟩ := hP
      have HP2 := Lib.hid p2
      obtain ⟨v1, v2, v3, v4⟩ := hVR.head
      have HV4 := Lib.hid v4
      simp only [Fo.cnt] at hcn
      have hkd : kd.cnt + 1 ≤ 1048576 := by omega
      have hj : (E.length : Int) < (F.len : Int) := by omega
      have hEl : E.length + 1 ≤ 1048576 := by omega
      have hzz : w.heap.size ≤ wr.heap.size := by omega
      have hB0 : w.heap.size + 1 + 1 ≤ wr.heap.size := by have := hbx.zr; omega
      have HCC : Hid (Calls Tryz.prog 39 #[nv hd A' kd.len cap', fv40] (wr.alloc (.cells (nc hd A' kd.len cap') 26)) fun e w2 => ∃ A2 cap2, e = .returned (nv (foT hd kd).1 A2 (foT hd kd).2.len cap2) ∧ AftR w wr w2 (w.heap.size + 1 + 1) h (some ⟨g, o, none⟩) F.len cap B cb E ⟨(foT hd kd).1, (foT hd kd).2, A2, cap2⟩) := Lib.hid
        ((p1 v1 v2 v3 hkd A' cap' (wr.alloc (.cells (nc hd A' kd.len cap') 26)) (HK.out.at_ (o := .cells (nc hd A' kd.len cap') 26) hzz rfl)).mono fun e w2 hm => aftR (o := .cells (nc hd A' kd.len cap') 26) HBX.out HBD.out hzz hB0 rfl hm)
      obtain ⟨m, hm2⟩ : ∃ m, (foT hd kd).2.len = m := ⟨_, rfl⟩
      have HM := Lib.hid hm2
      rw [hm2] at HCC
      clear hr hr' hrw hk' p1 p2 hbx hbd hs hVR v1 v2 v3 v4 hm2
      go_wp2_with fail
      refine HCC.out.mono ?_
      rintro e w2 ⟨A2, cap2, rfl, hq⟩
      have HQ := Lib.hid hq
      have q1 := hq.z
      clear hq c0 c1 c2 c3 c4 c5 c6 c7 c8
      go_wp2_with (at_builtin; refine wpList_append_lies _ rfl _ _ _ rfl (w.heap.size + 1 + 1) 26 i0 _ 9 104 Tryz.underlying22 hi hz0 hz1 hz2 rfl (by omega) (.slice B E.length cb) E.length (ecells E) rfl (HQ.out.d.own.alloc _) ⟨w2.heap.size, 0, none⟩ 1 1 (hc (foT hd kd).1 A2 m cap2) rfl rfl (World.news_of_block (cs := nc (foT hd kd).1 A2 m cap2) (t := 26) (fr := (0, 0)) (heap_alloc_new w2 _)) (by simp [Value.oneCell', hc]) (by omega) (by unfold maxLen; omega) (by omega) (by simp; omega) (w2.heap.size + 1) (by simp) ?_; intro g1 cap1 w4 hown1 hgrow1 hat1 hlt1; have hpa := pushR HQ.out hzz (by omega) (HM.out ▸ hown1) hgrow1 hat1; have HPA := Lib.hid hpa; clear hpa hown1 hgrow1 hat1)
      go_roundw
      case rel => exact ⟨E.length + 1, rr, some ⟨g1, 0, none⟩, cap1, E ++ [⟨(foT hd kd).1, (foT hd kd).2, A2, cap2⟩], by simp, by go_num, HRR.out, HP2.out, by omega, HV4.out, by simp, by rw [fo_app, Fo.app_assoc]; exact HS.out, HPA.out.1, HPA.out.2⟩
      case measure => simp [intOf]; omega
/-- rebuilt, at every permitted tree. -/
theorem rebuilt_any (nm : ByteArray → Bool) (h : Hd) (F : Fo) : RbP nm h F := Fo.ind (P := RbP nm) (rebuilt_w nm) h F

end Go.Proofs.YtnknphchjmnkcaaGreatDoor
