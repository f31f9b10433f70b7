/-
  The walk of the specification's plain (package fold).
-/
import Derived.Test.YtnknphchjmnkcaaGreatDoorFL
set_option linter.all false
namespace Go.Proofs.YtnknphchjmnkcaaGreatDoor
open Go.RowKit T T.Fo
/-- plain's contract at a tree. -/
def PlP (h : Hd) (F : Fo) : Prop := ∀ (A : Option Addr) (cap : Nat) (w : World), Kids (Lt w.heap.size) w A F → F.cnt + 1 ≤ 1048576 → Calls Tryz.prog 42 #[nv h A F.len cap] w (Made w (plH h) (plF F))
/-- A box of nine cells; the cell of the position written. -/
theorem set_pos {W : World} {D : Nat} {h : Hd} {A : Option Addr} {n c : Nat} {p : Int} (H : W.heap[D]? = some (.cells (nc h A n c) 26 (0, 0))) : (W.setCell ⟨D, 3, none⟩ (.int .i64 p)).heap[D]? = some (.cells (nc ⟨h.kind, h.text, h.num, p, h.tk, h.tn, h.ref, h.up⟩ A n c) 26 (0, 0)) := by
  simp [World.setCell, Array.getElem?_modify, H]
set_option maxRecDepth 100000 in
set_option maxHeartbeats 2000000 in
theorem plain_w (h : Hd) (F : Fo) (ih : F.All PlP) : PlP h F := by
  intro A cap w hk hm
  have HI := Lib.hid ih
  have HR := Lib.hid (Rest.start hk)
  have hlen : F.len ≤ F.cnt := F.len_le_cnt
  have hfl : F.len ≤ 1048576 := by omega
  obtain ⟨i0, hi, hz0, hz1, hz2⟩ := info_parts info26
  obtain ⟨q, hq⟩ : ∃ q, (plH h).num = q := ⟨_, rfl⟩
  have HPH : Hid (plH h = ⟨h.kind, h.text, q, h.pos, 0, ⟨#[]⟩, 0, 0⟩) := Lib.hid (by rw [← hq]; rfl)
  have HC : Hid (∀ V, Calls Tryz.prog 69 #[nv ⟨h.kind, h.text, h.num, 0, 0, ⟨#[]⟩, 0, 0⟩ none 0 0] V fun e w' => e = .returned (nv ⟨h.kind, h.text, q, 0, 0, ⟨#[]⟩, 0, 0⟩ none 0 0) ∧ Below V.heap.size V w') := Lib.hid (fun V => by
    have := rleaf_any h.kind h.text h.num V
    have e : bare ⟨h.kind, h.text, h.num, 0, 0, ⟨#[]⟩, 0, 0⟩ = ⟨h.kind, h.text, q, 0, 0, ⟨#[]⟩, 0, 0⟩ := by rw [← hq]; rfl
    rwa [e] at this)
  clear hq
  have h1 := heap_alloc_new w (.cells (nc h A F.len cap) 26)
  have h2 := heap_alloc_new (w.alloc (.cells (nc h A F.len cap) 26)) (.cells nc0 26)
  have h3 : ((w.alloc (.cells (nc h A F.len cap) 26)).alloc (.cells nc0 26)).heap[w.heap.size]? = _ := (Below.heap_alloc _ _ _ (by simp)).trans h1
  have HBA := Lib.hid ((fb1 w (.cells (nc h A F.len cap) 26)).trans ((fb1 _ (.cells nc0 26)).mono (by simp)))
  have H2 := Lib.hid h2
  have H3 := Lib.hid h3
  clear ih hk h1 h2 h3
  go_enter Tryz.func42, Tryz.ntmps42
  go_wp2_with fail
  refine (HC.out _).mono ?_
  rintro e w1 ⟨rfl, hb1⟩
  have s1 : w.heap.size + 1 < w1.heap.size := by have := hb1.size; simp at this; omega
  have hn0 : w1.heap[w.heap.size]? = some (.cells (nc h A F.len cap) 26 (0, 0)) := (hb1.block _ (by simp only [World.size_alloc]; omega)).trans H3.out
  have hr0 : w1.heap[w.heap.size + 1]? = some (.cells nc0 26 (0, 0)) := (hb1.block _ (by simp only [World.size_alloc]; omega)).trans (by have := H2.out; simpa using this)
  have HB1 := Lib.hid (HBA.out.trans (hb1.mono (by simp only [World.size_alloc]; omega)))
  have HN0 := Lib.hid hn0
  have HR0 := Lib.hid hr0
  have a3 : w1.cell? ⟨w.heap.size, 3, none⟩ = some (.int .i64 h.pos) := by simp [World.cell?, hn0]
  have a4 : w1.cell? ⟨w.heap.size, 4, none⟩ = some (.slice A F.len cap) := by simp [World.cell?, hn0]
  have y1 : w.heap.size < w1.heap.size := by omega
  have y2 : ¬ w.heap.size = w1.heap.size := by omega
  clear hb1 hn0 hr0
  go_wp2
  have HB0 : Hid (Bx w (w1.alloc (.cells (nc ⟨h.kind, h.text, q, h.pos, 0, ⟨#[]⟩, 0, 0⟩ none 0 0) 26)) w1.heap.size (w.heap.size + 1) ⟨h.kind, h.text, q, h.pos, 0, ⟨#[]⟩, 0, 0⟩ none 0 0 ∧ (w1.alloc (.cells (nc ⟨h.kind, h.text, q, h.pos, 0, ⟨#[]⟩, 0, 0⟩ none 0 0) 26)).heap[w.heap.size]? = some (.cells (nc h A F.len cap) 26 (0, 0))) :=
    Lib.hid ⟨⟨heap_alloc_new _ _, (Below.heap_alloc _ _ _ s1).trans HR0.out, by simp only [World.size_alloc]; omega, by simp only [World.size_alloc]; omega, HB1.out.trans ((fb1 _ _).mono (by omega))⟩, (Below.heap_alloc _ _ _ y1).trans HN0.out⟩
  have HD : Hid (∃ D, D = w1.heap.size ∧ w.heap.size + 1 < D) := Lib.hid ⟨_, rfl, s1⟩
  clear a3 a4 HC HBA H2 H3 HB1 HN0 HR0 y1 y2
  generalize hW : w1.alloc (.cells (nc ⟨h.kind, h.text, q, h.pos, 0, ⟨#[]⟩, 0, 0⟩ none 0 0) 26) = W0 at HB0 ⊢
  generalize w1.heap.size = D at HB0 s1 ⊢
  clear hW HD
  go_loopw [4] (fun ix wr => ∃ (i : Nat) (R : Fo) (B : Option Addr) (cb : Nat) (E : List El), ix = .int .i64 (i : Int) ∧ Rest (Lt w.heap.size) w A F i R ∧ R.All PlP ∧ R.cnt ≤ F.cnt ∧ E.length = i ∧ (fo E).app (plF R) = plF F ∧ Bx w wr D (w.heap.size + 1) ⟨h.kind, h.text, q, h.pos, 0, ⟨#[]⟩, 0, 0⟩ B E.length cb ∧ Bld wr (D + 1) B cb E ∧ wr.heap[w.heap.size]? = some (.cells (nc h A F.len cap) 26 (0, 0))) (fun ix _ => F.len - (intOf ix).toNat)
  case atStart => exact ⟨0, F, none, 0, [], rfl, HR.out, HI.out, Nat.le_refl _, rfl, rfl, HB0.out.1, Bld.nil _ _, HB0.out.2⟩
  case round =>
    obtain ⟨i, R, B, cb, E, rfl, hr, hP, hcn, hE, hs, hbx, hbd, hpb⟩ := hrel
    have HPB := Lib.hid hpb
    have pb4 : wr.cell? ⟨w.heap.size, 4, none⟩ = some (.slice A F.len cap) := by simp [World.cell?, hpb]
    clear hpb
    have hz := hbx.z
    have HBX := Lib.hid hbx
    have HBD := Lib.hid hbd
    have HS := Lib.hid hs
    subst hE
    have HE : Hid True := trivial
    cases R with
    | nil =>
      have hi := hr.stop
      have hi0 : decide (E.length < F.len) = false := by rw [hi]; simp
      have hi00 : decide ((E.length : Int) < (F.len : Int)) = false := by rw [hi]; simp
      clear hi
      obtain ⟨a0, a1, a2, a3, a4, a5, a6, a7, a8⟩ := hbx.all
      simp only [Nat.zero_add] at a1 a2 a3 a4 a5 a6 a7 a8
      have hrz := HBX.out.hr
      obtain ⟨⟨r0, r1, r2, r3, r4, r5, r6, r7, r8⟩, f0, f1, f2, f3, f4, f5, f6, f7, f8⟩ := zero9 hrz
      clear hr hP hs hbx hbd hrz
      go_wp2
      have hbk := blk9 (h' := litH 0 0 0) (A' := none) (n' := 0) (c' := 0) (h := ⟨h.kind, h.text, q, h.pos, 0, ⟨#[]⟩, 0, 0⟩) (A := B) (n := E.length) (c := cb) HBX.out.hr
      have h9 := nine w wr (w.heap.size + 1) (.int .i64 h.kind) (.string h.text) (.int .i64 q) (.int .i64 h.pos) (.slice B E.length cb) (.int .i64 0) (.string ⟨#[]⟩) (.int .i64 0) (.int .i64 0) rfl
      have hmd := made_of (w := w) (r := w.heap.size + 1) (h := ⟨h.kind, h.text, q, h.pos, 0, ⟨#[]⟩, 0, 0⟩) (F := plF F) HBD.out (by have := HS.out; rwa [plF, Fo.app_nil] at this) (by omega) (by omega) ⟨h9.1, h9.2.1, h9.2.2 HBX.out.bl (by omega)⟩
      exact ret_cell Tryz.results42 (r := w.heap.size + 1) (h := ⟨h.kind, h.text, q, h.pos, 0, ⟨#[]⟩, 0, 0⟩) (A := B) (n := E.length) (c := cb) rfl rfl hbk (HPH.out ▸ hmd)
    | cons hd kd rr =>
      obtain ⟨g, o, A', cap', rfl, ⟨c0, c1, c2, c3, c4, c5, c6, c7, c8⟩, hkc, hk', hr', hi1, hg⟩ := (hr.below hbx.bl (Nat.le_refl _)).next
      have hrw := hr.tail
      obtain ⟨q4, f4⟩ := hbx.c4
      have HRR := Lib.hid hrw
      have HK := Lib.hid hk'
      obtain ⟨p1, p2⟩ := hP
      have HP1 := Lib.hid p1
      have HP2 := Lib.hid p2
      simp only [Fo.cnt] at hcn
      have hkd : kd.cnt + 1 ≤ 1048576 := by omega
      have hj : (E.length : Int) < (F.len : Int) := by omega
      have hEl : E.length + 1 ≤ 1048576 := by omega
      clear hr hr' hrw hk' p1 p2 hbx hbd hs
      have hzz : w.heap.size ≤ wr.heap.size := by omega
      have hB0 : D + 1 ≤ wr.heap.size := by omega
      have HCC : Hid (Calls Tryz.prog 42 #[nv hd A' kd.len cap'] wr.drew fun e w2 => ∃ A2 cap2, e = .returned (nv (plH hd) A2 (plF kd).len cap2) ∧ Aft w wr w2 D (w.heap.size + 1) (D + 1) ⟨h.kind, h.text, q, h.pos, 0, ⟨#[]⟩, 0, 0⟩ B cb E ⟨plH hd, plF kd, A2, cap2⟩) :=
        Lib.hid ((HP1.out A' cap' wr.drew (HK.out.drew hzz) hkd).mono fun e w2 hm => aft_plain (W := wr.drew) HBX.out HBD.out hzz hB0 rfl rfl rfl rfl hm)
      obtain ⟨m, hm2⟩ : ∃ m, (plF kd).len = m := ⟨_, rfl⟩
      have HM := Lib.hid hm2
      rw [hm2] at HCC
      clear hm2
      go_wp2
      go_region_law (first
        | (refine step_append_lies _ (by rfl) _ _ _ (by rfl) (D + 1) 26 i0 _ 9 104 Tryz.underlying22 hi hz0 hz1 hz2 rfl (by omega) (.slice B E.length cb) E.length (ecells E) (by rfl) (HQ.out.d.own.alloc _) ⟨w2.heap.size, 0, none⟩ 1 1 (hc (plH hd) A2 m cap2) (by rfl) (by rfl) (World.news_of_block (cs := nc (plH hd) A2 m cap2) (t := 26) (fr := (0, 0)) (heap_alloc_new w2 _)) (by simp [Value.oneCell', hc]) (by omega) (by unfold maxLen; omega) (by omega) (by have := HQ.out.z; simp; omega) (w2.heap.size + 1) (by simp) ?_; intro g1 cap1 w4 hown1 hgrow1 hat1 hlt1; have hpa := push_all HQ.out hzz (by omega) (by omega) (by omega) (by omega) (HM.out ▸ hown1) hgrow1 hat1; have HPA := Lib.hid hpa; have HPK := Lib.hid ((push_keep (v := .slice (some ⟨g1, 0, none⟩) (E.length + 1) cap1) HQ.out hB0 hgrow1 (x := w.heap.size) (by omega) (by omega)).trans HPB.out); have q44 := hpa.1; have f44 := hpa.2.1; clear hpa hown1 hgrow1 hat1)
        | (go_simp; go_at_call 42; refine HCC.out.mono ?_; rintro e w2 ⟨A2, cap2, rfl, hq⟩; have HQ := Lib.hid hq; have q42 := hq.x.c4.1; have z42 := hq.x.z; clear hq))
      all_goals
        have HB4 := Lib.hid HPA.out.2.2
        clear HPA q44 f44
        go_wp2
        go_roundw
        case rel => exact ⟨E.length + 1, rr, some ⟨g1, 0, none⟩, cap1, E ++ [⟨plH hd, plF kd, A2, cap2⟩], by go_num, HRR.out, HP2.out, by omega, by simp, by rw [fo_app, Fo.app_assoc]; exact HS.out, HB4.out.1, HB4.out.2, HPK.out⟩
        case measure => simp [intOf]; omega
/-- plain, at every tree. -/
theorem plain_any (h : Hd) (F : Fo) : PlP h F := Fo.ind (P := PlP) plain_w h F

end Go.Proofs.YtnknphchjmnkcaaGreatDoor
