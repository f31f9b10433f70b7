/-
  The walk of the program's Strip.
-/
import Derived.Test.YticbcnhbpbaocaaGreatDoorCA

set_option linter.all false
namespace Go.Proofs.YticbcnhbpbaocaaGreatDoor
open Go.RowKit T T.Fo

/-- Strip's contract at a tree. -/
def StripP (h : Hd) (F : Fo) : Prop := ∀ (A : Option Addr) (cap : Nat) (w : World), Kids (Lt w.heap.size) w A F → F.cnt + 1 ≤ 1048576 →
    Calls Tryz.prog 21 #[nv h A F.len cap] w (Made w (bare h) F.strip)

set_option maxRecDepth 100000 in
theorem hasNum_at (h : Hd) (A : Option Addr) (n cap : Nat) (w : World) (v : Bool) (h24 : (h.kind == 24) = false ∧ (h.kind == 25) = v ∨ (h.kind == 24) = true ∧ v = true) :
    Calls Tryz.prog 33 #[nv h A n cap] w fun e w' => e = .returned (.bool v) ∧ w' = w.alloc (.cells (nc h A n cap) 26) := by
  rcases h24 with ⟨h24, h25⟩ | ⟨h24, rfl⟩
  all_goals
    go_enter Tryz.func33, Tryz.ntmps33
    go_wp2
    go_ret
    exact ⟨rfl, rfl⟩

set_option maxRecDepth 100000 in
set_option maxHeartbeats 2000000 in
theorem strip_k (k : Int) (t : ByteArray) (n p tk : Int) (tn : ByteArray) (r u : Int) (F : Fo) (ih : F.All StripP) (A : Option Addr) (cap : Nat) (w : World) (hk : Kids (Lt w.heap.size) w A F) (hm : F.cnt + 1 ≤ 1048576) (hk24 : (k == 24) = false) (hk25 : (k == 25) = false) :
    Calls Tryz.prog 21 #[nv ⟨k, t, n, p, tk, tn, r, u⟩ A F.len cap] w (Made w ⟨k, t, 0, 0, 0, ⟨#[]⟩, 0, 0⟩ F.strip) := by
  have HI := Lib.hid ih
  have HR := Lib.hid (Rest.start hk)
  have hlen : F.len ≤ F.cnt := F.len_le_cnt
  have hfl : F.len ≤ 1048576 := by omega
  obtain ⟨i0, hi, hz0, hz1, hz2⟩ := info_parts info26
  have HC := Lib.hid (fun wz => hasNum_at ⟨k, t, n, p, tk, tn, r, u⟩ A F.len cap wz false (.inl ⟨hk24, hk25⟩))
  clear ih hk hk24 hk25
  go_enter Tryz.func21, Tryz.ntmps21
  go_wp2_with (go_at_call 33; refine (HC.out _).mono ?_; rintro e w' ⟨rfl, rfl⟩)
  have HB0 : Hid (∀ o1 o2 o3 o4, (o2 = .cells nc0 26) → (o3 = .cells (nc ⟨k, t, 0, 0, 0, ⟨#[]⟩, 0, 0⟩ none 0 0) 26) → Bx w ((((w.alloc o1).alloc o2).alloc o3).alloc o4) (w.heap.size + 1 + 1) (w.heap.size + 1) ⟨k, t, 0, 0, 0, ⟨#[]⟩, 0, 0⟩ none 0 0) := by
    rintro o1 o2 o3 o4 rfl rfl
    have z1 : (w.alloc o1).heap.size = w.heap.size + 1 := by simp
    have z2 : ((w.alloc o1).alloc (.cells nc0 26)).heap.size = w.heap.size + 1 + 1 := by simp
    refine ⟨?_, ?_, by simp, by simp, (((Below.refl _ _).alloc (Nat.le_refl _) _).alloc (by simp) _ |>.alloc (by simp only [World.size_alloc]; omega) _).alloc (by simp only [World.size_alloc]; omega) _⟩
    · rw [Below.heap_alloc _ _ _ (by simp), ← z2]; exact heap_alloc_new _ _
    · rw [Below.heap_alloc _ _ _ (by simp), Below.heap_alloc _ _ _ (by simp), ← z1]; exact heap_alloc_new _ _
  go_loopw [19] (fun ix wr => ∃ (i : Nat) (R : Fo) (B : Option Addr) (cb : Nat) (E : List El), ix = .int .i64 (i : Int) ∧ Rest (Lt w.heap.size) w A F i R ∧ R.All StripP ∧ R.cnt ≤ F.cnt ∧ E.length = i ∧ (fo E).app R.strip = F.strip ∧ Bx w wr (w.heap.size + 1 + 1) (w.heap.size + 1) ⟨k, t, 0, 0, 0, ⟨#[]⟩, 0, 0⟩ B E.length cb ∧ Bld wr (w.heap.size + 1 + 1 + 1) B cb E) (fun ix _ => F.len - (intOf ix).toNat)
  case atStart => exact ⟨0, F, none, 0, [], rfl, HR.out, HI.out, Nat.le_refl _, rfl, rfl, HB0.out _ _ _ _ rfl rfl, Bld.nil _ _⟩
  case round =>
    obtain ⟨i, R, B, cb, E, rfl, hr, hP, hcn, hE, hs, hbx, hbd⟩ := hrel
    have hz := hbx.z
    have HBX := Lib.hid hbx
    have HBD := Lib.hid hbd
    have HS := Lib.hid hs
    subst hE
    have HE : Hid True := trivial
    cases R with
    | nil =>
      have hi := hr.stop
      have HI2 := Lib.hid hi
      have hi0 : decide (E.length < F.len) = false := by rw [hi]; simp
      have hi00 : decide ((E.length : Int) < (F.len : Int)) = false := by rw [hi]; simp
      clear hi
      obtain ⟨a0, a1, a2, a3, a4, a5, a6, a7, a8⟩ := hbx.all
      simp only [Nat.zero_add] at a1 a2 a3 a4 a5 a6 a7 a8
      obtain ⟨hres, hfz⟩ := hbx.res
      obtain ⟨v0, d0⟩ := hres 0 (by omega)
      obtain ⟨v1, d1⟩ := hres 1 (by omega)
      obtain ⟨v2, d2⟩ := hres 2 (by omega)
      obtain ⟨v3, d3⟩ := hres 3 (by omega)
      obtain ⟨v4, d4⟩ := hres 4 (by omega)
      obtain ⟨v5, d5⟩ := hres 5 (by omega)
      obtain ⟨v6, d6⟩ := hres 6 (by omega)
      obtain ⟨v7, d7⟩ := hres 7 (by omega)
      obtain ⟨v8, d8⟩ := hres 8 (by omega)
      clear hr hP hs hres hbx hbd
      have hfz0 := hfz
      clear hfz
      have HF := Lib.hid hfz0
      have f0 := HF.out 0
      have f1 := HF.out 1
      have f2 := HF.out 2
      have f3 := HF.out 3
      have f4 := HF.out 4
      have f5 := HF.out 5
      have f6 := HF.out 6
      have f7 := HF.out 7
      have f8 := HF.out 8
      clear hfz0
      go_wp2
      refine bodyPost_ret (v := nv ⟨k, t, 0, 0, 0, ⟨#[]⟩, 0, 0⟩ B E.length cb) (by simp [results, Tryz.results21, go_sem, *]) rfl ?_
      exact made_nine (r := w.heap.size + 1) HBD.out (by have := HS.out; rwa [Fo.strip, Fo.app_nil] at this) (by omega) (by omega) HBX.out.bl (by omega) rfl
    | cons hd kd rr =>
      obtain ⟨g, o, A', cap', rfl, ⟨c0, c1, c2, c3, c4, c5, c6, c7, c8⟩, hkc, hk', hr', hi1, hg⟩ := (hr.below hbx.bl (Nat.le_refl _)).next
      have hrw := hr.tail
      obtain ⟨q4, f4⟩ := hbx.c4
      have HRR := Lib.hid hrw
      have HK := Lib.hid hk'
      obtain ⟨p1, p2⟩ := hP
      have HP1 := Lib.hid p1
      have HP2 := Lib.hid p2
      simp only [Fo.cnt] at hcn
      have hkd : kd.cnt + 1 ≤ 1048576 := by omega
      have hj : (E.length : Int) < (F.len : Int) := by omega
      have hEl : E.length + 1 ≤ 1048576 := by omega
      clear hr hr' hrw hk' p1 p2 hbx hbd hs
      have hzz : w.heap.size ≤ wr.heap.size := by omega
      have hB0 : w.heap.size + 1 + 1 + 1 ≤ wr.heap.size := by omega
      have HCC : Hid (Calls Tryz.prog 21 #[nv hd A' kd.len cap'] (wr.alloc (.cells (nc hd A' kd.len cap') 26)).drew fun e w2 => ∃ A2 cap2, e = .returned (nv (bare hd) A2 kd.strip.len cap2) ∧ Aft w wr w2 (w.heap.size + 1 + 1) (w.heap.size + 1) (w.heap.size + 1 + 1 + 1) ⟨k, t, 0, 0, 0, ⟨#[]⟩, 0, 0⟩ B cb E ⟨bare hd, kd.strip, A2, cap2⟩) :=
        (HP1.out A' cap' (wr.alloc (.cells (nc hd A' kd.len cap') 26)).drew (HK.out.at_ (o := .cells (nc hd A' kd.len cap') 26) hzz rfl) hkd).mono fun e w2 hm => aft_of (W := (wr.alloc (.cells (nc hd A' kd.len cap') 26)).drew) (o := .cells (nc hd A' kd.len cap') 26) HBX.out HBD.out hzz hB0 rfl rfl rfl rfl hm
      clear hB0
      go_wp2
      go_region_law (first
        | (refine step_append_lies _ (by rfl) _ _ _ (by rfl) (w.heap.size + 1 + 1 + 1) 26 i0 _ 9 104 Tryz.underlying22 hi hz0 hz1 hz2 rfl (by omega) (.slice B E.length cb) E.length (ecells E) (by rfl) (HQ.out.d.own.alloc _) ⟨w2.heap.size, 0, none⟩ 1 1 (hc (bare hd) A2 kd.strip.len cap2) (by rfl) (by rfl) (World.news_of_block (cs := nc (bare hd) A2 kd.strip.len cap2) (t := 26) (fr := (0, 0)) (heap_alloc_new w2 _)) (by simp [Value.oneCell', hc]) (by omega) (by unfold maxLen; omega) (by omega) (by have := HQ.out.z; simp; omega) (w2.heap.size + 1) (by simp) ?_; intro g1 cap1 w4 hown1 hgrow1 hat1 hlt1; have hpa := push_all HQ.out hzz (by omega) (by omega) (by omega) (by omega) hown1 hgrow1 hat1; have HPA := Lib.hid hpa; have q44 := hpa.1; have f44 := hpa.2.1; clear hpa hown1 hgrow1 hat1)
        | (go_simp; go_at_call 21; refine HCC.out.mono ?_; rintro e w2 ⟨A2, cap2, rfl, hq⟩; have HQ := Lib.hid hq; have q42 := hq.x.c4.1; have z42 := hq.x.z; clear hq))
      all_goals
        have HB4 := Lib.hid HPA.out.2.2
        clear HPA q44 f44
        go_wp2
        go_roundw
        case rel => exact ⟨E.length + 1, rr, some ⟨g1, 0, none⟩, cap1, E ++ [⟨bare hd, kd.strip, A2, cap2⟩], by go_num, HRR.out, HP2.out, by omega, by simp, by rw [fo_app, Fo.app_assoc]; exact HS.out, HB4.out.1, HB4.out.2⟩
        case measure => simp [intOf]; omega
set_option maxRecDepth 100000 in
set_option maxHeartbeats 2000000 in
theorem strip_24 (t : ByteArray) (n p tk : Int) (tn : ByteArray) (r u : Int) (F : Fo) (ih : F.All StripP) (A : Option Addr) (cap : Nat) (w : World) (hk : Kids (Lt w.heap.size) w A F) (hm : F.cnt + 1 ≤ 1048576) :
    Calls Tryz.prog 21 #[nv ⟨24, t, n, p, tk, tn, r, u⟩ A F.len cap] w (Made w ⟨24, t, n, 0, 0, ⟨#[]⟩, 0, 0⟩ F.strip) := by
  have HI := Lib.hid ih
  have HR := Lib.hid (Rest.start hk)
  have hlen : F.len ≤ F.cnt := F.len_le_cnt
  have hfl : F.len ≤ 1048576 := by omega
  obtain ⟨i0, hi, hz0, hz1, hz2⟩ := info_parts info26
  have HC := Lib.hid (fun wz => hasNum_at ⟨24, t, n, p, tk, tn, r, u⟩ A F.len cap wz true (.inr ⟨rfl, rfl⟩))
  clear ih hk
  go_enter Tryz.func21, Tryz.ntmps21
  go_wp2_with (go_at_call 33; refine (HC.out _).mono ?_; rintro e w' ⟨rfl, rfl⟩)
  have HB0 : Hid (∀ o1 o2 o3 o4, (o2 = .cells nc0 26) → (o3 = .cells (nc ⟨24, t, n, 0, 0, ⟨#[]⟩, 0, 0⟩ none 0 0) 26) → Bx w ((((w.alloc o1).alloc o2).alloc o3).alloc o4) (w.heap.size + 1 + 1) (w.heap.size + 1) ⟨24, t, n, 0, 0, ⟨#[]⟩, 0, 0⟩ none 0 0) := by
    rintro o1 o2 o3 o4 rfl rfl
    have z1 : (w.alloc o1).heap.size = w.heap.size + 1 := by simp
    have z2 : ((w.alloc o1).alloc (.cells nc0 26)).heap.size = w.heap.size + 1 + 1 := by simp
    refine ⟨?_, ?_, by simp, by simp, (((Below.refl _ _).alloc (Nat.le_refl _) _).alloc (by simp) _ |>.alloc (by simp only [World.size_alloc]; omega) _).alloc (by simp only [World.size_alloc]; omega) _⟩
    · rw [Below.heap_alloc _ _ _ (by simp), ← z2]; exact heap_alloc_new _ _
    · rw [Below.heap_alloc _ _ _ (by simp), Below.heap_alloc _ _ _ (by simp), ← z1]; exact heap_alloc_new _ _
  go_loopw [19] (fun ix wr => ∃ (i : Nat) (R : Fo) (B : Option Addr) (cb : Nat) (E : List El), ix = .int .i64 (i : Int) ∧ Rest (Lt w.heap.size) w A F i R ∧ R.All StripP ∧ R.cnt ≤ F.cnt ∧ E.length = i ∧ (fo E).app R.strip = F.strip ∧ Bx w wr (w.heap.size + 1 + 1) (w.heap.size + 1) ⟨24, t, n, 0, 0, ⟨#[]⟩, 0, 0⟩ B E.length cb ∧ Bld wr (w.heap.size + 1 + 1 + 1) B cb E) (fun ix _ => F.len - (intOf ix).toNat)
  case atStart => exact ⟨0, F, none, 0, [], rfl, HR.out, HI.out, Nat.le_refl _, rfl, rfl, HB0.out _ _ _ _ rfl rfl, Bld.nil _ _⟩
  case round =>
    obtain ⟨i, R, B, cb, E, rfl, hr, hP, hcn, hE, hs, hbx, hbd⟩ := hrel
    have hz := hbx.z
    have HBX := Lib.hid hbx
    have HBD := Lib.hid hbd
    have HS := Lib.hid hs
    subst hE
    have HE : Hid True := trivial
    cases R with
    | nil =>
      have hi := hr.stop
      have HI2 := Lib.hid hi
      have hi0 : decide (E.length < F.len) = false := by rw [hi]; simp
      have hi00 : decide ((E.length : Int) < (F.len : Int)) = false := by rw [hi]; simp
      clear hi
      obtain ⟨a0, a1, a2, a3, a4, a5, a6, a7, a8⟩ := hbx.all
      simp only [Nat.zero_add] at a1 a2 a3 a4 a5 a6 a7 a8
      obtain ⟨hres, hfz⟩ := hbx.res
      obtain ⟨v0, d0⟩ := hres 0 (by omega)
      obtain ⟨v1, d1⟩ := hres 1 (by omega)
      obtain ⟨v2, d2⟩ := hres 2 (by omega)
      obtain ⟨v3, d3⟩ := hres 3 (by omega)
      obtain ⟨v4, d4⟩ := hres 4 (by omega)
      obtain ⟨v5, d5⟩ := hres 5 (by omega)
      obtain ⟨v6, d6⟩ := hres 6 (by omega)
      obtain ⟨v7, d7⟩ := hres 7 (by omega)
      obtain ⟨v8, d8⟩ := hres 8 (by omega)
      clear hr hP hs hres hbx hbd
      have hfz0 := hfz
      clear hfz
      have HF := Lib.hid hfz0
      have f0 := HF.out 0
      have f1 := HF.out 1
      have f2 := HF.out 2
      have f3 := HF.out 3
      have f4 := HF.out 4
      have f5 := HF.out 5
      have f6 := HF.out 6
      have f7 := HF.out 7
      have f8 := HF.out 8
      clear hfz0
      go_wp2
      refine bodyPost_ret (v := nv ⟨24, t, n, 0, 0, ⟨#[]⟩, 0, 0⟩ B E.length cb) (by simp [results, Tryz.results21, go_sem, *]) rfl ?_
      exact made_nine (r := w.heap.size + 1) HBD.out (by have := HS.out; rwa [Fo.strip, Fo.app_nil] at this) (by omega) (by omega) HBX.out.bl (by omega) rfl
    | cons hd kd rr =>
      obtain ⟨g, o, A', cap', rfl, ⟨c0, c1, c2, c3, c4, c5, c6, c7, c8⟩, hkc, hk', hr', hi1, hg⟩ := (hr.below hbx.bl (Nat.le_refl _)).next
      have hrw := hr.tail
      obtain ⟨q4, f4⟩ := hbx.c4
      have HRR := Lib.hid hrw
      have HK := Lib.hid hk'
      obtain ⟨p1, p2⟩ := hP
      have HP1 := Lib.hid p1
      have HP2 := Lib.hid p2
      simp only [Fo.cnt] at hcn
      have hkd : kd.cnt + 1 ≤ 1048576 := by omega
      have hj : (E.length : Int) < (F.len : Int) := by omega
      have hEl : E.length + 1 ≤ 1048576 := by omega
      clear hr hr' hrw hk' p1 p2 hbx hbd hs
      have hzz : w.heap.size ≤ wr.heap.size := by omega
      have hB0 : w.heap.size + 1 + 1 + 1 ≤ wr.heap.size := by omega
      have HCC : Hid (Calls Tryz.prog 21 #[nv hd A' kd.len cap'] (wr.alloc (.cells (nc hd A' kd.len cap') 26)).drew fun e w2 => ∃ A2 cap2, e = .returned (nv (bare hd) A2 kd.strip.len cap2) ∧ Aft w wr w2 (w.heap.size + 1 + 1) (w.heap.size + 1) (w.heap.size + 1 + 1 + 1) ⟨24, t, n, 0, 0, ⟨#[]⟩, 0, 0⟩ B cb E ⟨bare hd, kd.strip, A2, cap2⟩) :=
        (HP1.out A' cap' (wr.alloc (.cells (nc hd A' kd.len cap') 26)).drew (HK.out.at_ (o := .cells (nc hd A' kd.len cap') 26) hzz rfl) hkd).mono fun e w2 hm => aft_of (W := (wr.alloc (.cells (nc hd A' kd.len cap') 26)).drew) (o := .cells (nc hd A' kd.len cap') 26) HBX.out HBD.out hzz hB0 rfl rfl rfl rfl hm
      clear hB0
      go_wp2
      go_region_law (first
        | (refine step_append_lies _ (by rfl) _ _ _ (by rfl) (w.heap.size + 1 + 1 + 1) 26 i0 _ 9 104 Tryz.underlying22 hi hz0 hz1 hz2 rfl (by omega) (.slice B E.length cb) E.length (ecells E) (by rfl) (HQ.out.d.own.alloc _) ⟨w2.heap.size, 0, none⟩ 1 1 (hc (bare hd) A2 kd.strip.len cap2) (by rfl) (by rfl) (World.news_of_block (cs := nc (bare hd) A2 kd.strip.len cap2) (t := 26) (fr := (0, 0)) (heap_alloc_new w2 _)) (by simp [Value.oneCell', hc]) (by omega) (by unfold maxLen; omega) (by omega) (by have := HQ.out.z; simp; omega) (w2.heap.size + 1) (by simp) ?_; intro g1 cap1 w4 hown1 hgrow1 hat1 hlt1; have hpa := push_all HQ.out hzz (by omega) (by omega) (by omega) (by omega) hown1 hgrow1 hat1; have HPA := Lib.hid hpa; have q44 := hpa.1; have f44 := hpa.2.1; clear hpa hown1 hgrow1 hat1)
        | (go_simp; go_at_call 21; refine HCC.out.mono ?_; rintro e w2 ⟨A2, cap2, rfl, hq⟩; have HQ := Lib.hid hq; have q42 := hq.x.c4.1; have z42 := hq.x.z; clear hq))
      all_goals
        have HB4 := Lib.hid HPA.out.2.2
        clear HPA q44 f44
        go_wp2
        go_roundw
        case rel => exact ⟨E.length + 1, rr, some ⟨g1, 0, none⟩, cap1, E ++ [⟨bare hd, kd.strip, A2, cap2⟩], by go_num, HRR.out, HP2.out, by omega, by simp, by rw [fo_app, Fo.app_assoc]; exact HS.out, HB4.out.1, HB4.out.2⟩
        case measure => simp [intOf]; omega
set_option maxRecDepth 100000 in
set_option maxHeartbeats 2000000 in
theorem strip_25 (t : ByteArray) (n p tk : Int) (tn : ByteArray) (r u : Int) (F : Fo) (ih : F.All StripP) (A : Option Addr) (cap : Nat) (w : World) (hk : Kids (Lt w.heap.size) w A F) (hm : F.cnt + 1 ≤ 1048576) :
    Calls Tryz.prog 21 #[nv ⟨25, t, n, p, tk, tn, r, u⟩ A F.len cap] w (Made w ⟨25, t, n, 0, 0, ⟨#[]⟩, 0, 0⟩ F.strip) := by
  have HI := Lib.hid ih
  have HR := Lib.hid (Rest.start hk)
  have hlen : F.len ≤ F.cnt := F.len_le_cnt
  have hfl : F.len ≤ 1048576 := by omega
  obtain ⟨i0, hi, hz0, hz1, hz2⟩ := info_parts info26
  have HC := Lib.hid (fun wz => hasNum_at ⟨25, t, n, p, tk, tn, r, u⟩ A F.len cap wz true (.inl ⟨rfl, rfl⟩))
  clear ih hk
  go_enter Tryz.func21, Tryz.ntmps21
  go_wp2_with (go_at_call 33; refine (HC.out _).mono ?_; rintro e w' ⟨rfl, rfl⟩)
  have HB0 : Hid (∀ o1 o2 o3 o4, (o2 = .cells nc0 26) → (o3 = .cells (nc ⟨25, t, n, 0, 0, ⟨#[]⟩, 0, 0⟩ none 0 0) 26) → Bx w ((((w.alloc o1).alloc o2).alloc o3).alloc o4) (w.heap.size + 1 + 1) (w.heap.size + 1) ⟨25, t, n, 0, 0, ⟨#[]⟩, 0, 0⟩ none 0 0) := by
    rintro o1 o2 o3 o4 rfl rfl
    have z1 : (w.alloc o1).heap.size = w.heap.size + 1 := by simp
    have z2 : ((w.alloc o1).alloc (.cells nc0 26)).heap.size = w.heap.size + 1 + 1 := by simp
    refine ⟨?_, ?_, by simp, by simp, (((Below.refl _ _).alloc (Nat.le_refl _) _).alloc (by simp) _ |>.alloc (by simp only [World.size_alloc]; omega) _).alloc (by simp only [World.size_alloc]; omega) _⟩
    · rw [Below.heap_alloc _ _ _ (by simp), ← z2]; exact heap_alloc_new _ _
    · rw [Below.heap_alloc _ _ _ (by simp), Below.heap_alloc _ _ _ (by simp), ← z1]; exact heap_alloc_new _ _
  go_loopw [19] (fun ix wr => ∃ (i : Nat) (R : Fo) (B : Option Addr) (cb : Nat) (E : List El), ix = .int .i64 (i : Int) ∧ Rest (Lt w.heap.size) w A F i R ∧ R.All StripP ∧ R.cnt ≤ F.cnt ∧ E.length = i ∧ (fo E).app R.strip = F.strip ∧ Bx w wr (w.heap.size + 1 + 1) (w.heap.size + 1) ⟨25, t, n, 0, 0, ⟨#[]⟩, 0, 0⟩ B E.length cb ∧ Bld wr (w.heap.size + 1 + 1 + 1) B cb E) (fun ix _ => F.len - (intOf ix).toNat)
  case atStart => exact ⟨0, F, none, 0, [], rfl, HR.out, HI.out, Nat.le_refl _, rfl, rfl, HB0.out _ _ _ _ rfl rfl, Bld.nil _ _⟩
  case round =>
    obtain ⟨i, R, B, cb, E, rfl, hr, hP, hcn, hE, hs, hbx, hbd⟩ := hrel
    have hz := hbx.z
    have HBX := Lib.hid hbx
    have HBD := Lib.hid hbd
    have HS := Lib.hid hs
    subst hE
    have HE : Hid True := trivial
    cases R with
    | nil =>
      have hi := hr.stop
      have HI2 := Lib.hid hi
      have hi0 : decide (E.length < F.len) = false := by rw [hi]; simp
      have hi00 : decide ((E.length : Int) < (F.len : Int)) = false := by rw [hi]; simp
      clear hi
      obtain ⟨a0, a1, a2, a3, a4, a5, a6, a7, a8⟩ := hbx.all
      simp only [Nat.zero_add] at a1 a2 a3 a4 a5 a6 a7 a8
      obtain ⟨hres, hfz⟩ := hbx.res
      obtain ⟨v0, d0⟩ := hres 0 (by omega)
      obtain ⟨v1, d1⟩ := hres 1 (by omega)
      obtain ⟨v2, d2⟩ := hres 2 (by omega)
      obtain ⟨v3, d3⟩ := hres 3 (by omega)
      obtain ⟨v4, d4⟩ := hres 4 (by omega)
      obtain ⟨v5, d5⟩ := hres 5 (by omega)
      obtain ⟨v6, d6⟩ := hres 6 (by omega)
      obtain ⟨v7, d7⟩ := hres 7 (by omega)
      obtain ⟨v8, d8⟩ := hres 8 (by omega)
      clear hr hP hs hres hbx hbd
      have hfz0 := hfz
      clear hfz
      have HF := Lib.hid hfz0
      have f0 := HF.out 0
      have f1 := HF.out 1
      have f2 := HF.out 2
      have f3 := HF.out 3
      have f4 := HF.out 4
      have f5 := HF.out 5
      have f6 := HF.out 6
      have f7 := HF.out 7
      have f8 := HF.out 8
      clear hfz0
      go_wp2
      refine bodyPost_ret (v := nv ⟨25, t, n, 0, 0, ⟨#[]⟩, 0, 0⟩ B E.length cb) (by simp [results, Tryz.results21, go_sem, *]) rfl ?_
      exact made_nine (r := w.heap.size + 1) HBD.out (by have := HS.out; rwa [Fo.strip, Fo.app_nil] at this) (by omega) (by omega) HBX.out.bl (by omega) rfl
    | cons hd kd rr =>
      obtain ⟨g, o, A', cap', rfl, ⟨c0, c1, c2, c3, c4, c5, c6, c7, c8⟩, hkc, hk', hr', hi1, hg⟩ := (hr.below hbx.bl (Nat.le_refl _)).next
      have hrw := hr.tail
      obtain ⟨q4, f4⟩ := hbx.c4
      have HRR := Lib.hid hrw
      have HK := Lib.hid hk'
      obtain ⟨p1, p2⟩ := hP
      have HP1 := Lib.hid p1
      have HP2 := Lib.hid p2
      simp only [Fo.cnt] at hcn
      have hkd : kd.cnt + 1 ≤ 1048576 := by omega
      have hj : (E.length : Int) < (F.len : Int) := by omega
      have hEl : E.length + 1 ≤ 1048576 := by omega
      clear hr hr' hrw hk' p1 p2 hbx hbd hs
      have hzz : w.heap.size ≤ wr.heap.size := by omega
      have hB0 : w.heap.size + 1 + 1 + 1 ≤ wr.heap.size := by omega
      have HCC : Hid (Calls Tryz.prog 21 #[nv hd A' kd.len cap'] (wr.alloc (.cells (nc hd A' kd.len cap') 26)).drew fun e w2 => ∃ A2 cap2, e = .returned (nv (bare hd) A2 kd.strip.len cap2) ∧ Aft w wr w2 (w.heap.size + 1 + 1) (w.heap.size + 1) (w.heap.size + 1 + 1 + 1) ⟨25, t, n, 0, 0, ⟨#[]⟩, 0, 0⟩ B cb E ⟨bare hd, kd.strip, A2, cap2⟩) :=
        (HP1.out A' cap' (wr.alloc (.cells (nc hd A' kd.len cap') 26)).drew (HK.out.at_ (o := .cells (nc hd A' kd.len cap') 26) hzz rfl) hkd).mono fun e w2 hm => aft_of (W := (wr.alloc (.cells (nc hd A' kd.len cap') 26)).drew) (o := .cells (nc hd A' kd.len cap') 26) HBX.out HBD.out hzz hB0 rfl rfl rfl rfl hm
      clear hB0
      go_wp2
      go_region_law (first
        | (refine step_append_lies _ (by rfl) _ _ _ (by rfl) (w.heap.size + 1 + 1 + 1) 26 i0 _ 9 104 Tryz.underlying22 hi hz0 hz1 hz2 rfl (by omega) (.slice B E.length cb) E.length (ecells E) (by rfl) (HQ.out.d.own.alloc _) ⟨w2.heap.size, 0, none⟩ 1 1 (hc (bare hd) A2 kd.strip.len cap2) (by rfl) (by rfl) (World.news_of_block (cs := nc (bare hd) A2 kd.strip.len cap2) (t := 26) (fr := (0, 0)) (heap_alloc_new w2 _)) (by simp [Value.oneCell', hc]) (by omega) (by unfold maxLen; omega) (by omega) (by have := HQ.out.z; simp; omega) (w2.heap.size + 1) (by simp) ?_; intro g1 cap1 w4 hown1 hgrow1 hat1 hlt1; have hpa := push_all HQ.out hzz (by omega) (by omega) (by omega) (by omega) hown1 hgrow1 hat1; have HPA := Lib.hid hpa; have q44 := hpa.1; have f44 := hpa.2.1; clear hpa hown1 hgrow1 hat1)
        | (go_simp; go_at_call 21; refine HCC.out.mono ?_; rintro e w2 ⟨A2, cap2, rfl, hq⟩; have HQ := Lib.hid hq; have q42 := hq.x.c4.1; have z42 := hq.x.z; clear hq))
      all_goals
        have HB4 := Lib.hid HPA.out.2.2
        clear HPA q44 f44
        go_wp2
        go_roundw
        case rel => exact ⟨E.length + 1, rr, some ⟨g1, 0, none⟩, cap1, E ++ [⟨bare hd, kd.strip, A2, cap2⟩], by go_num, HRR.out, HP2.out, by omega, by simp, by rw [fo_app, Fo.app_assoc]; exact HS.out, HB4.out.1, HB4.out.2⟩
        case measure => simp [intOf]; omega

theorem strip_any (h : Hd) (F : Fo) : StripP h F := by
  refine Fo.ind (P := StripP) ?_ h F
  clear h F
  intro h F ih A cap w hk hm
  obtain ⟨k, t, n, p, tk, tn, r, u⟩ := h
  by_cases h24 : k = 24
  · subst h24
    exact strip_24 t n p tk tn r u F ih A cap w hk hm
  · by_cases h25 : k = 25
    · subst h25
      exact strip_25 t n p tk tn r u F ih A cap w hk hm
    · have e : bare ⟨k, t, n, p, tk, tn, r, u⟩ = ⟨k, t, 0, 0, 0, ⟨#[]⟩, 0, 0⟩ := by simp [bare, counts, h24, h25]
      rw [e]
      exact strip_k k t n p tk tn r u F ih A cap w hk hm (by simpa using h24) (by simpa using h25)
end Go.Proofs.YticbcnhbpbaocaaGreatDoor
