/-
  The walks of the specification's Depth and List, of great.
  The walk of the specification's Copy.
-/
import Derived.Test.YticbcnhbpbaocaaGreatDoorCA

set_option linter.all false
namespace Go.Proofs.YticbcnhbpbaocaaGreatDoor
open Go.RowKit T T.Fo

/-- Depth's contract at a tree. -/
def DepthP (h : Hd) (F : Fo) : Prop := ∀ (A : Option Addr) (cap : Nat) (w : World) (m : Nat), Kids (Lt w.heap.size) w A F → F.dep + 1 = m → F.cnt ≤ 1048576 →
    Calls Tryz.prog 29 #[nv h A F.len cap] w fun e w' => e = .returned (.int .i64 (m : Int)) ∧ Below w.heap.size w w'

theorem dep_le (F : Fo) : F.dep ≤ F.cnt := by
  induction F with
  | nil => exact Nat.le_refl _
  | cons h k r ihk ihr => simp only [Fo.dep, Fo.cnt]; omega

set_option maxRecDepth 100000 in
set_option maxHeartbeats 1000000 in
theorem depth_any (h : Hd) (F : Fo) : DepthP h F := by
  refine Fo.ind (P := DepthP) ?_ h F
  clear h F
  intro h F ih A cap w m hk hm hml
  have HI := Lib.hid ih
  have HM := Lib.hid hm
  have HR := Lib.hid (Rest.start hk)
  have hlen : F.len ≤ F.cnt := F.len_le_cnt
  have hdl := dep_le F
  have hfl : F.len ≤ 1048576 := by omega
  clear ih hm hk
  go_enter Tryz.func29, Tryz.ntmps29
  go_wp2
  go_loopw [3, 4] (fun kx ix wr => ∃ (a i : Nat) (R : Fo), kx = .int .i64 (a : Int) ∧ ix = .int .i64 (i : Int) ∧ max a R.dep = F.dep ∧ R.cnt ≤ F.cnt ∧ Rest (Lt w.heap.size) w A F i R ∧ R.All DepthP ∧ Below w.heap.size w wr ∧ w.heap.size < wr.heap.size ∧ wr.cell? ⟨w.heap.size, 4, none⟩ = some (.slice A F.len cap)) (fun _ ix _ => F.len - (intOf ix).toNat)
  case atStart => exact ⟨0, 0, F, rfl, rfl, by omega, Nat.le_refl _, HR.out, HI.out, (Below.refl _ _).alloc (Nat.le_refl _) _, by simp, by simp⟩
  case round =>
    obtain ⟨a, i, R, rfl, rfl, ha, hcn, hr, hP, hb, hz, hc⟩ := hrel
    have HB := Lib.hid hb
    have HA := Lib.hid ha
    have hab : a ≤ F.dep := by omega
    cases R with
    | nil =>
      have hi := hr.stop
      subst hi
      clear hr hP hb HR ha
      go_wp2
      go_ret
      exact ⟨ret_int (by have e1 := HA.out; have e2 := HM.out; simp only [Fo.dep] at e1; omega), HB.out⟩
    | cons h' k' r =>
      obtain ⟨g, o, A', cap', rfl, ⟨c0, c1, c2, c3, c4, c5, c6, c7, c8⟩, hkc, hk', hr', hi, hg⟩ := (hr.below hb (Nat.le_refl _)).next
      have hrw := hr.tail
      have HRR := Lib.hid hrw
      have HK := Lib.hid hk'
      obtain ⟨p1, p2⟩ := hP
      have HP1 := Lib.hid p1
      have HP2 := Lib.hid p2
      simp only [Fo.cnt] at hcn
      obtain ⟨q, hq⟩ : ∃ q, k'.dep + 1 = q := ⟨_, rfl⟩
      have HQ := Lib.hid hq
      have hkc2 : k'.cnt ≤ 1048576 := by omega
      clear hr hr' hrw hk' p1 p2 hb ha hq
      have hi1 : (i : Int) < (F.len : Int) := by omega
      go_wp2_with fail
      refine (HP1.out A' cap' _ q (HK.out.mono (by omega)) HQ.out hkc2).mono ?_
      rintro e w2 ⟨rfl, hb2⟩
      have HB2 := Lib.hid hb2
      have hc2 : w2.cell? ⟨w.heap.size, 4, none⟩ = some (.slice (some ⟨g, o, none⟩) F.len cap) := (hb2.cell (p := ⟨w.heap.size, 4, none⟩) hz).trans hc
      have HC2 := Lib.hid hc2
      have hzw := hb2.size
      clear hb2 hc2 hc c0 c1 c2 c3 c4 c5 c6 c7 c8
      by_cases hmx : a < q
      · have hmx1 : ¬ q ≤ a := by omega
        go_wp2
        go_roundw
        case rel => exact ⟨q, i + 1, r, rfl, by go_num, by have e1 := HA.out; have e2 := HQ.out; simp only [Fo.dep] at e1; omega, by omega, HRR.out, HP2.out, HB.out.trans (HB2.out.mono (by omega)), by omega, HC2.out⟩
        case measure => simp [intOf]; omega
      · have hmx1 : q ≤ a := by omega
        go_wp2
        go_roundw
        case rel => exact ⟨a, i + 1, r, rfl, by go_num, by have e1 := HA.out; have e2 := HQ.out; simp only [Fo.dep] at e1; omega, by omega, HRR.out, HP2.out, HB.out.trans (HB2.out.mono (by omega)), by omega, HC2.out⟩
        case measure => simp [intOf]; omega

/-- List's contract at a tree: its own row, whose nodes lead into the tree. -/
def Listed (w : World) (B0 : Nat) (L : List (Hd × Fo)) (e : Ending) (w' : World) : Prop :=
  ∃ (g : Nat) (cap : Nat) (E : List El), e = .returned (.slice (some ⟨g, 0, none⟩) E.length cap) ∧ w'.ownsRow w.heap.size 26 9 (.slice (some ⟨g, 0, none⟩) E.length cap) E.length (ecells E) ∧ Els (Lt B0) w' E ∧ E.map (fun x => (x.h, x.k)) = L ∧ Below w.heap.size w w' ∧ 0 < E.length
def ListP (h : Hd) (F : Fo) : Prop := ∀ (A : Option Addr) (cap : Nat) (w : World) (B0 : Nat), B0 ≤ w.heap.size → Kids (Lt B0) w A F → F.len ≤ cap → F.cnt + 1 ≤ 1048576 →
    Calls Tryz.prog 26 #[nv h A F.len cap] w (Listed w B0 (preT h F))

theorem ecells_one (E : List El) : ∀ u ∈ ecells E, u.oneCell' = true := by
  intro u hu
  obtain ⟨e, _, he⟩ := List.mem_flatMap.1 hu
  simp [El.cells, hc] at he
  rcases he with rfl | rfl | rfl | rfl | rfl | rfl | rfl | rfl | rfl <;> simp [Value.oneCell']
theorem own_kept {w w' : World} {base n cap : Nat} {A : Option Addr} {xs : List Value} (h : w.ownsRow base 26 9 (.slice A n cap) n xs) (hb : Below w.heap.size w w') : w'.ownsRow base 26 9 (.slice A n cap) n xs :=
  h.kept (row := none) ⟨hb.os, hb.tape, hb.output, hb.size, fun k hk _ => hb.block k hk⟩ (by cases hv : (Value.slice A n cap).ownBlock <;> simp)
/-- What holds at the head of List's rounds. -/
structure Ls (w wr : World) (B0 : Nat) (h : Hd) (F : Fo) (A : Option Addr) (cap : Nat) (g cb : Nat) (E : List El) (i : Nat) (R : Fo) : Prop where
  r : Rest (Lt B0) w A F i R
  own : wr.ownsRow (w.heap.size + 1) 26 9 (.slice (some ⟨g, 0, none⟩) E.length cb) E.length (ecells E)
  els : Els (Lt B0) w E
  eq : E.map (fun x => (x.h, x.k)) ++ R.pre = preT h F
  b : Below (w.heap.size) w wr
  z : w.heap.size + 1 < wr.heap.size
  c : wr.cell? ⟨w.heap.size, 4, none⟩ = some (.slice A F.len cap)
  p : 0 < E.length
theorem Ls.len {w wr : World} {B0 : Nat} {h : Hd} {F R : Fo} {A : Option Addr} {cap g cb i : Nat} {E : List El} (H : Ls w wr B0 h F A cap g cb E i R) : E.length + R.cnt = F.cnt + 1 := by
  have := congrArg List.length H.eq
  simp [preT, pre_len] at this
  omega
theorem Ls.step {w wr w2 w4 : World} {B0 : Nat} {h h' : Hd} {F k' r : Fo} {A : Option Addr} {cap g cb i g2 cap2 g1 cap1 : Nat} {E E2 : List El} (H : Ls w wr B0 h F A cap g cb E i (.cons h' k' r)) (hB : B0 ≤ w.heap.size)
    (h2 : w2.ownsRow wr.heap.size 26 9 (.slice (some ⟨g2, 0, none⟩) E2.length cap2) E2.length (ecells E2)) (he2 : Els (Lt B0) w2 E2) (hm : E2.map (fun x => (x.h, x.k)) = preT h' k') (hb : Below wr.heap.size wr w2)
    (hown : w4.ownsRow (w.heap.size + 1) 26 9 (.slice (some ⟨g1, 0, none⟩) (E.length + E2.length) cap1) (E.length + E2.length) (ecells E ++ ecells E2)) (hgr : w2.grownBy w4 (Value.slice (some ⟨g, 0, none⟩) E.length cb).ownBlock) :
    Ls w w4 B0 h F A cap g1 cap1 (E ++ E2) (i + 1) r := by
  have hz := H.z
  have hl : (E ++ E2).length = E.length + E2.length := by simp
  have hg := H.own.lt g rfl
  have hbw : Below w.heap.size w w2 := H.b.trans (hb.mono (by omega))
  have hbs := hb.size
  refine ⟨H.r.tail, ?_, ?_, ?_, hbw.grown hgr (by omega) (fun k hk => by have := H.own.lt k hk; omega), by have := hgr.size; omega, ?_, by have := H.p; omega⟩
  · rw [hl]
    have : ecells (E ++ E2) = ecells E ++ ecells E2 := by simp [ecells]
    rw [this]; exact hown
  · intro e he
    rcases List.mem_append.1 he with he | he
    · exact H.els e he
    · exact ⟨(he2 e he).1, (he2 e he).2.carry fun b hS => ⟨hS, (hbw.block b (Nat.lt_of_lt_of_le hS hB)).symm⟩⟩
  · rw [List.map_append, hm, List.append_assoc]
    exact H.eq
  · have e1 := hgr.block w.heap.size (by omega) (fun e => by
      have e : w.heap.size = g := Option.some.inj e
      omega)
    have e2 := hb.block w.heap.size (by omega)
    have e3 := H.c
    rw [← e3]
    exact World.cell?_of_block (a := ⟨w.heap.size, 4, none⟩) (e1.trans e2)

set_option maxRecDepth 100000 in
set_option maxHeartbeats 2000000 in
theorem list_any (h : Hd) (F : Fo) : ListP h F := by
  refine Fo.ind (P := ListP) ?_ h F
  clear h F
  intro h F ih A cap w B0 hB hk hc0 hm
  have HI := Lib.hid ih
  have hlen : F.len ≤ F.cnt := F.len_le_cnt
  have hfl : F.len ≤ 1048576 := by omega
  obtain ⟨i0, hi, hz0, hz1, hz2⟩ := info_parts info26
  have HS : Hid (∀ o, Ls w ((w.alloc o).alloc (.cells (nc h A F.len cap) 26)) B0 h F A cap (w.heap.size + 1) 1 [⟨h, F, A, cap⟩] 0 F ∨ o ≠ .cells (nc h A F.len cap) 26) := by
    intro o
    by_cases ho : o = .cells (nc h A F.len cap) 26
    · left
      subst ho
      have z1 : (w.alloc (.cells (nc h A F.len cap) 26)).heap.size = w.heap.size + 1 := by simp
      refine ⟨Rest.start hk, ⟨by simp [ecells, El.cells, hc], .inr ⟨w.heap.size + 1, 1, nc h A F.len cap, rfl, Nat.le_refl _, ?_, Nat.le_refl _, by unfold maxLen; omega, rfl, by simp [ecells, El.cells, hc]⟩⟩, ?_, rfl, ((Below.refl _ _).alloc (Nat.le_refl _) _).alloc (by simp) _, by simp, by simp, by simp⟩
      · rw [← z1]; exact heap_alloc_new _ _
      · intro e he
        rw [List.mem_singleton] at he
        subst he
        exact ⟨hc0, hk⟩
    · exact .inr ho
  clear ih hk
  go_enter Tryz.func26, Tryz.ntmps26
  go_wp2
  go_loopw [3, 4] (fun kx ix wr => ∃ (i : Nat) (R : Fo) (g cb : Nat) (E : List El), kx = .slice (some ⟨g, 0, none⟩) E.length cb ∧ ix = .int .i64 (i : Int) ∧ R.All ListP ∧ Ls w wr B0 h F A cap g cb E i R) (fun _ ix _ => F.len - (intOf ix).toNat)
  case atStart => exact ⟨0, F, w.heap.size + 1, 1, [⟨h, F, A, cap⟩], rfl, rfl, HI.out, (HS.out _).resolve_right (fun h => h rfl)⟩
  case round =>
    obtain ⟨i, R, g, cb, E, rfl, rfl, hP, hL⟩ := hrel
    have HL := Lib.hid hL
    have hz := hL.z
    have hcl := hL.c
    have hll := hL.len
    cases R with
    | nil =>
      have hi2 := hL.r.stop
      subst hi2
      clear hP hL HS
      go_wp2
      go_ret
      exact ⟨g, cb, E, rfl, by
        have h1 := HL.out.own
        obtain ⟨q1, q2⟩ := h1
        refine ⟨q1, ?_⟩
        rcases q2 with q2 | ⟨g', c, cur, hv, hb, r⟩
        · exact .inl q2
        · exact .inr ⟨g', c, cur, hv, by omega, r⟩, fun e he => ⟨(HL.out.els e he).1, (HL.out.els e he).2.carry fun b hS => ⟨hS, HL.out.b.block b (Nat.lt_of_lt_of_le hS hB)⟩⟩, by have := HL.out.eq; simpa [Fo.pre] using this, HL.out.b, HL.out.p⟩
    | cons h' k' r =>
      obtain ⟨g3, o3, A', cap', rfl, ⟨c0, c1, c2, c3, c4, c5, c6, c7, c8⟩, hkc, hk', hr', hi1, hg⟩ := (hL.r.below hL.b hB).next
      obtain ⟨p1, p2⟩ := hP
      simp only [Fo.cnt] at hll
      have HC := Lib.hid (p1 A' cap' wr B0 (by omega) hk' hkc (by omega))
      have HP2 := Lib.hid p2
      clear hr' hk' p1 p2 hL HS
      have hj : (i : Int) < (F.len : Int) := by omega
      have hlB : B0 ≤ w.heap.size := hB
      go_wp2_with fail
      refine HC.out.mono ?_
      rintro e w2 ⟨g2, cap2, E2, rfl, ho2, he2, hm2, hb2, hp2⟩
      have HO2 := Lib.hid ho2
      have HE2 := Lib.hid he2
      have HM2 := Lib.hid hm2
      have HB2 := Lib.hid hb2
      have hzw := hb2.size
      have hl2 : E2.length = 1 + k'.cnt := by have := congrArg List.length hm2; simpa [preT_len] using this
      have HLL := Lib.hid hl2
      have hsum : E.length + E2.length ≤ 1048576 := by omega
      clear ho2 he2 hm2 hb2 hl2 c0 c1 c2 c3 c4 c5 c6 c7 c8 hcl
      go_wp2_with (at_builtin; refine wpList_append_lies _ rfl _ _ _ rfl (w.heap.size + 1) 26 i0 _ 9 104 Tryz.underlying22 hi hz0 hz1 hz2 rfl (by omega) (.slice (some ⟨g, 0, none⟩) E.length cb) E.length (ecells E) rfl (own_kept HL.out.own HB2.out) ⟨g2, 0, none⟩ E2.length cap2 (ecells E2) rfl (ecells_len E2) (fun j u hj => HO2.out.cells (g := g2) rfl j u hj) (ecells_one E2) hp2 (by unfold maxLen; omega) (by omega) (by omega) w2.heap.size rfl ?_; intro g1 cap1 w4 hown1 hgrow1 hat1 hlt1; have hst := HL.out.step hB HO2.out HE2.out HM2.out HB2.out hown1 hgrow1; have HST := Lib.hid hst; clear hst hown1 hgrow1 hat1)
      go_roundw
      case rel => exact ⟨i + 1, r, g1, cap1, E ++ E2, by rw [List.length_append], by go_num, HP2.out, HST.out⟩
      case measure => simp [intOf]; omega
end Go.Proofs.YticbcnhbpbaocaaGreatDoor

namespace Go.Proofs.YticbcnhbpbaocaaGreatDoor
open Go.RowKit T T.Fo

/-- The contract at a tree. -/
def CopyP (h : Hd) (F : Fo) : Prop := ∀ (A : Option Addr) (cap : Nat) (w : World), Kids (Lt w.heap.size) w A F → F.cnt + 1 ≤ 1048576 →
    Calls Tryz.prog 12 #[nv h A F.len cap] w (Made w h F)

set_option maxRecDepth 100000 in
set_option maxHeartbeats 2000000 in
theorem copy_any' (h : Hd) (F : Fo) (ih : F.All CopyP) (A : Option Addr) (cap : Nat) (w : World) (hk : Kids (Lt w.heap.size) w A F) (hm : F.cnt + 1 ≤ 1048576) :
    Calls Tryz.prog 12 #[nv h A F.len cap] w (Made w h F) := by
  have HI := Lib.hid ih
  have HR := Lib.hid (Rest.start hk)
  have hlen : F.len ≤ F.cnt := F.len_le_cnt
  have hfl : F.len ≤ 1048576 := by omega
  obtain ⟨i0, hi, hz0, hz1, hz2⟩ := info_parts info26
  clear ih hk
  go_enter Tryz.func12, Tryz.ntmps12
  go_wp2
  have HB0 : Hid (∀ o1 o2, (o1 = .cells (nc h none 0 0) 26) → (o2 = .cells nc0 26) → Bx w ((w.alloc o1).alloc o2) w.heap.size (w.heap.size + 1) h none 0 0) := by
    rintro o1 o2 rfl rfl
    have z1 : (w.alloc (.cells (nc h none 0 0) 26)).heap.size = w.heap.size + 1 := by simp
    refine ⟨?_, ?_, by simp; omega, by simp, ((Below.refl _ _).alloc (Nat.le_refl _) _).alloc (by simp) _⟩
    · rw [Below.heap_alloc _ _ _ (by simp)]; exact heap_alloc_new _ _
    · rw [← z1]; exact heap_alloc_new _ _
  go_loopw [4] (fun ix wr => ∃ (i : Nat) (R : Fo) (B : Option Addr) (cb : Nat) (E : List El), ix = .int .i64 (i : Int) ∧ Rest (Lt w.heap.size) w A F i R ∧ R.All CopyP ∧ R.cnt ≤ F.cnt ∧ E.length = i ∧ (fo E).app R = F ∧ Bx w wr w.heap.size (w.heap.size + 1) h B E.length cb ∧ Bld wr (w.heap.size + 1 + 1) B cb E) (fun ix _ => F.len - (intOf ix).toNat)
  case atStart => exact ⟨0, F, none, 0, [], rfl, HR.out, HI.out, Nat.le_refl _, rfl, rfl, HB0.out _ _ rfl rfl, Bld.nil _ _⟩
  case round =>
    obtain ⟨i, R, B, cb, E, rfl, hr, hP, hcn, hE, hs, hbx, hbd⟩ := hrel
    have hz := hbx.z
    have hzr := hbx.zr
    have HBX := Lib.hid hbx
    have HBD := Lib.hid hbd
    have HS := Lib.hid hs
    subst hE
    have HE : Hid True := trivial
    cases R with
    | nil =>
      have hi := hr.stop
      have HI2 := Lib.hid hi
      have hi0 : decide (E.length < F.len) = false := by rw [hi]; simp
      have hi00 : decide ((E.length : Int) < (F.len : Int)) = false := by rw [hi]; simp
      clear hi
      obtain ⟨a0, a1, a2, a3, a4, a5, a6, a7, a8⟩ := hbx.all
      simp only [Nat.zero_add] at a1 a2 a3 a4 a5 a6 a7 a8
      obtain ⟨hres, hfz⟩ := hbx.res
      obtain ⟨v0, d0⟩ := hres 0 (by omega)
      obtain ⟨v1, d1⟩ := hres 1 (by omega)
      obtain ⟨v2, d2⟩ := hres 2 (by omega)
      obtain ⟨v3, d3⟩ := hres 3 (by omega)
      obtain ⟨v4, d4⟩ := hres 4 (by omega)
      obtain ⟨v5, d5⟩ := hres 5 (by omega)
      obtain ⟨v6, d6⟩ := hres 6 (by omega)
      obtain ⟨v7, d7⟩ := hres 7 (by omega)
      obtain ⟨v8, d8⟩ := hres 8 (by omega)
      clear hr hP hs hres hbx hbd
      have hfz0 := hfz
      clear hfz
      have HF := Lib.hid hfz0
      have f0 := HF.out 0
      have f1 := HF.out 1
      have f2 := HF.out 2
      have f3 := HF.out 3
      have f4 := HF.out 4
      have f5 := HF.out 5
      have f6 := HF.out 6
      have f7 := HF.out 7
      have f8 := HF.out 8
      clear hfz0
      go_wp2
      refine bodyPost_ret (v := nv h B E.length cb) (by simp [results, Tryz.results12, go_sem, *]) rfl ?_
      exact made_nine (r := w.heap.size + 1) HBD.out (by have := HS.out; rwa [Fo.app_nil] at this) (by omega) (by omega) HBX.out.bl (by omega) rfl
    | cons hd kd rr =>
      obtain ⟨g, o, A', cap', rfl, ⟨c0, c1, c2, c3, c4, c5, c6, c7, c8⟩, hkc, hk', hr', hi1, hg⟩ := (hr.below hbx.bl (Nat.le_refl _)).next
      have hrw := hr.tail
      obtain ⟨q4, f4⟩ := hbx.c4
      have HRR := Lib.hid hrw
      have HK := Lib.hid hk'
      obtain ⟨p1, p2⟩ := hP
      have HP1 := Lib.hid p1
      have HP2 := Lib.hid p2
      simp only [Fo.cnt] at hcn
      have hkd : kd.cnt + 1 ≤ 1048576 := by omega
      have hj : (E.length : Int) < (F.len : Int) := by omega
      have hEl : E.length + 1 ≤ 1048576 := by omega
      clear hr hr' hrw hk' p1 p2 hbx hbd hs
      have hzz : w.heap.size ≤ wr.heap.size := by omega
      have hB0 : w.heap.size + 1 + 1 ≤ wr.heap.size := by omega
      have HCC : Hid (Calls Tryz.prog 12 #[nv hd A' kd.len cap'] wr.drew fun e w2 => ∃ A2 cap2, e = .returned (nv hd A2 kd.len cap2) ∧ Aft w wr w2 w.heap.size (w.heap.size + 1) (w.heap.size + 1 + 1) h B cb E ⟨hd, kd, A2, cap2⟩) :=
        (HP1.out A' cap' wr.drew (HK.out.drew hzz) hkd).mono fun e w2 hm => aft_plain (W := wr.drew) HBX.out HBD.out hzz hB0 rfl rfl rfl rfl hm
      go_wp2
      go_region_law (first
        | (refine step_append_lies _ (by rfl) _ _ _ (by rfl) (w.heap.size + 1 + 1) 26 i0 _ 9 104 Tryz.underlying22 hi hz0 hz1 hz2 rfl (by omega) (.slice B E.length cb) E.length (ecells E) (by rfl) (HQ.out.d.own.alloc _) ⟨w2.heap.size, 0, none⟩ 1 1 (hc hd A2 kd.len cap2) (by rfl) (by rfl) (World.news_of_block (cs := nc hd A2 kd.len cap2) (t := 26) (fr := (0, 0)) (heap_alloc_new w2 _)) (by simp [Value.oneCell', hc]) (by omega) (by unfold maxLen; omega) (by omega) (by have := HQ.out.z; simp; omega) (w2.heap.size + 1) (by simp) ?_; intro g1 cap1 w4 hown1 hgrow1 hat1 hlt1; have hpa := push_all HQ.out hzz (by omega) (by omega) (by omega) (by omega) hown1 hgrow1 hat1; have HPA := Lib.hid hpa; have q44 := hpa.1; have f44 := hpa.2.1; clear hpa hown1 hgrow1 hat1)
        | (go_simp; go_at_call 12; refine HCC.out.mono ?_; rintro e w2 ⟨A2, cap2, rfl, hq⟩; have HQ := Lib.hid hq; have q42 := hq.x.c4.1; have z42 := hq.x.z; clear hq))
      all_goals
        have HB4 := Lib.hid HPA.out.2.2
        clear HPA q44 f44
        go_wp2
        go_roundw
        case rel => exact ⟨E.length + 1, rr, some ⟨g1, 0, none⟩, cap1, E ++ [⟨hd, kd, A2, cap2⟩], by go_num, HRR.out, HP2.out, by omega, by simp, by rw [fo_app, Fo.app_assoc]; exact HS.out, HB4.out.1, HB4.out.2⟩
        case measure => simp [intOf]; omega

theorem copy_any (h : Hd) (F : Fo) : CopyP h F := by
  refine Fo.ind (P := CopyP) ?_ h F
  clear h F
  intro h F ih A cap w hk hm
  exact copy_any' h F ih A cap w hk hm
end Go.Proofs.YticbcnhbpbaocaaGreatDoor
