/-
  The walks of between, variable, statement.
  The walks of statement, by kinds.
  The walks of statement, by kinds.
  The walks of statement, by kinds.
-/
import Derived.Test.YticbcnhbpbaocaaGreatDoorQC

set_option linter.all false
namespace Go.Proofs.YticbcnhbpbaocaaGreatDoor
open Go.RowKit T T.Fo
set_option linter.all false

set_option maxRecDepth 100000 in
set_option maxHeartbeats 2000000 in
theorem between_any {w1 W : World} {B b n cap n' cap' : Nat} {l ta tc : Bs} {d : Int} {h h' : Hd} {A A' : Option Addr} (x : ByteArray) (H : Sn w1 B b l d W) (Pa : Prn 115 (nv h A n cap) ta d B b w1) (Pc : Prn 115 (nv h' A' n' cap') tc d B b w1) (hlen : l.length + ta.length + x.data.toList.length + tc.length ≤ lim) :
    Calls Tryz.prog 132 #[pt b, nv h A n cap, .string x, nv h' A' n' cap'] W (Done w1 B b (l ++ ta ++ x.data.toList ++ tc) d) := by
  have HA := Lib.hid (H.al (bx h A n cap))
  have H1 := Lib.hid (HA.out.al (bx h' A' n' cap'))
  have S1 := Lib.hid (Sn.start H1.out.pz)
  have HB := Lib.hid (Nb.new W h A n cap)
  have HB1 : Hid (Nb ((W.alloc (bx h A n cap)).alloc (bx h' A' n' cap')) (W.heap.size + 1) h' A' n' cap') := by
    have := Nb.new (W.alloc (bx h A n cap)) h' A' n' cap'
    simp only [World.size_alloc] at this
    exact Lib.hid this
  have HPa := Lib.hid (Pa.mono H1.out.bl)
  have HPc := Lib.hid (Pc.mono H1.out.bl)
  clear H Pa Pc
  go_enter Tryz.func132, Tryz.ntmps132
  go_wp2_with (first
    | (go_at_call 97; refine (around_any x ⟨#[]⟩ S2.out HPc.out (by simp only [List.length_append]; show _ + _ + _ + _ + 0 ≤ _; omega)).mono ?_; rintro e w3 ⟨rfl, s3⟩; have S3 := Lib.hid s3; clear s3)
    | (go_at_call 115; refine (S1.out.prn HPa.out (by omega)).mono ?_; rintro e w2 ⟨rfl, s2⟩; have S2 := Lib.hid s2; obtain ⟨b0, b1, b2, b3, b4, b5, b6, b7, b8⟩ := (HB1.out.kp s2.kp).cells; clear s2))
  go_end0
  refine ⟨rfl, ?_⟩
  have := H1.out.trans S3.out
  simpa using this

set_option maxRecDepth 100000 in
set_option maxHeartbeats 4000000 in
theorem variable_no {W : World} {B b : Nat} {d : Int} (h h0 h1 : Hd) (k0 k1 : Fo) (hm : h0.text.size ≤ 20000) (h9 : (h1.kind == 9) = true) :
    PrnT 72 h (.cons h0 k0 (.cons h1 k1 .nil)) ([118, 97, 114, 32] ++ h.text.data.toList ++ [32] ++ typeS h0 ++ []) d B b W := by
  intro A cap hcap hk
  show Prn 72 (nv h A 2 cap) ([118, 97, 114, 32] ++ h.text.data.toList ++ [32] ++ typeS h0 ++ []) d B b W
  intro l w hp hb hlen
  obtain ⟨g, o, A0, c0, rfl, hg, h90, hc0, hk0, hl0⟩ := kid1 hk
  obtain ⟨A1, c1, _, h91, hc1, hk1, hl1⟩ := lie1 hl0
  have HW := Lib.hid (hp.below1 (bx h (some ⟨g, o, none⟩) 2 cap))
  have HKW := Lib.hid (Kp.alloc w (bx h (some ⟨g, o, none⟩) 2 cap))
  have S1 := Lib.hid (hp.fresh (bx h (some ⟨g, o, none⟩) 2 cap))
  have HB := Lib.hid (Nb.new w h (some ⟨g, o, none⟩) 2 cap)
  have HK0 := Lib.hid (h90.below (hb.trans HW.out) hg)
  have HK1 := Lib.hid (h91.below (hb.trans HW.out) hg)
  obtain ⟨s, hs⟩ : ∃ s : ByteArray, s = ⟨(typeS h0).toArray⟩ := ⟨_, rfl⟩
  have e1 : typeS h0 = s.data.toList := by rw [hs]
  have HT : Hid (Calls Tryz.prog 96 #[nv h0 A0 k0.len c0] (w.alloc (bx h (some ⟨g, o, none⟩) 2 cap)).drew fun e w' => e = .returned (.string s) ∧ Sn (w.alloc (bx h (some ⟨g, o, none⟩) 2 cap)) B b l d w') := Lib.hid ((typeText_any h0 A0 k0.len c0 _ hm).mono fun e w' hq => ⟨by rw [hq.1, hs], S1.out.dr.keep hq.2⟩)
  rw [e1] at hlen ⊢
  simp only [List.length_append, List.length_cons, List.length_nil, len_toList] at hlen
  clear hk hcap hp hb h90 h91 hc0 hc1 hk0 hk1 hl0 hl1 hs e1
  obtain ⟨q00, q01, q02, q03, q04, q05, q06, q07, q08⟩ := HK0.out
  go_enter Tryz.func72, Tryz.ntmps72
  go_wp2
  go_region_law ((go_simp; first
    | (go_at_call 52; refine (write4 S2.out ⟨#[118, 97, 114, 32]⟩ h.text ⟨#[32]⟩ s (by (try simp only [List.length_append, List.length_cons, List.length_nil, len_toList]); omega) (by first | rfl | simp)).mono ?_; rintro e w3 ⟨rfl, s3⟩; have S3 := Lib.hid s3; obtain ⟨d0, d1, d2, d3, d4, d5, d6, d7, d8⟩ := (HB.out.kp s3.kp).cells; obtain ⟨u0, u1, u2, u3, u4, u5, u6, u7, u8⟩ := HK1.out.below s3.bl hg; clear s3)
    | (go_at_call 96; refine HT.out.mono ?_; rintro e w2 ⟨rfl, s2⟩; have S2 := Lib.hid s2; obtain ⟨b0, b1, b2, b3, b4, b5, b6, b7, b8⟩ := (HB.out.kp s2.kp).cells; obtain ⟨r0, r1, r2, r3, r4, r5, r6, r7, r8⟩ := HK0.out.below s2.bl hg; clear s2)))
  all_goals
    go_wp2
    go_end0
    exact (S3.out.al (bx h1 A1 k1.len c1)).done HW.out HKW.out (by simp [List.append_assoc])

set_option maxRecDepth 100000 in
set_option maxHeartbeats 4000000 in
theorem variable_yes {W : World} {B b : Nat} {d : Int} (h h0 h1 : Hd) (k0 k1 : Fo) (t1 : Bs) (P1 : PrnT 115 h1 k1 t1 d B b W) (hm : h0.text.size ≤ 20000) (h9 : (h1.kind == 9) = false) :
    PrnT 72 h (.cons h0 k0 (.cons h1 k1 .nil)) ([118, 97, 114, 32] ++ h.text.data.toList ++ [32] ++ typeS h0 ++ ([32, 61, 32] ++ t1)) d B b W := by
  intro A cap hcap hk
  show Prn 72 (nv h A 2 cap) ([118, 97, 114, 32] ++ h.text.data.toList ++ [32] ++ typeS h0 ++ ([32, 61, 32] ++ t1)) d B b W
  intro l w hp hb hlen
  obtain ⟨g, o, A0, c0, rfl, hg, h90, hc0, hk0, hl0⟩ := kid1 hk
  obtain ⟨A1, c1, _, h91, hc1, hk1, hl1⟩ := lie1 hl0
  have HW := Lib.hid (hp.below1 (bx h (some ⟨g, o, none⟩) 2 cap))
  have HKW := Lib.hid (Kp.alloc w (bx h (some ⟨g, o, none⟩) 2 cap))
  have S1 := Lib.hid (hp.fresh (bx h (some ⟨g, o, none⟩) 2 cap))
  have HB := Lib.hid (Nb.new w h (some ⟨g, o, none⟩) 2 cap)
  have HK0 := Lib.hid (h90.below (hb.trans HW.out) hg)
  have HK1 := Lib.hid (h91.below (hb.trans HW.out) hg)
  have HP1 := Lib.hid ((P1 A1 c1 hc1 hk1).mono (hb.trans HW.out))
  obtain ⟨s, hs⟩ : ∃ s : ByteArray, s = ⟨(typeS h0).toArray⟩ := ⟨_, rfl⟩
  have e1 : typeS h0 = s.data.toList := by rw [hs]
  have HT : Hid (Calls Tryz.prog 96 #[nv h0 A0 k0.len c0] (w.alloc (bx h (some ⟨g, o, none⟩) 2 cap)).drew fun e w' => e = .returned (.string s) ∧ Sn (w.alloc (bx h (some ⟨g, o, none⟩) 2 cap)) B b l d w') := Lib.hid ((typeText_any h0 A0 k0.len c0 _ hm).mono fun e w' hq => ⟨by rw [hq.1, hs], S1.out.dr.keep hq.2⟩)
  rw [e1] at hlen ⊢
  simp only [List.length_append, List.length_cons, List.length_nil, len_toList] at hlen
  clear hk hcap hp hb h90 h91 hc0 hc1 hk0 hk1 hl0 hl1 hs e1 P1
  obtain ⟨q00, q01, q02, q03, q04, q05, q06, q07, q08⟩ := HK0.out
  go_enter Tryz.func72, Tryz.ntmps72
  go_wp2
  go_region_law ((go_simp; first
    | (go_at_call 52; refine (write4 S2.out ⟨#[118, 97, 114, 32]⟩ h.text ⟨#[32]⟩ s (by (try simp only [List.length_append, List.length_cons, List.length_nil, len_toList]); omega) (by first | rfl | simp)).mono ?_; rintro e w3 ⟨rfl, s3⟩; have S3 := Lib.hid s3; obtain ⟨d0, d1, d2, d3, d4, d5, d6, d7, d8⟩ := (HB.out.kp s3.kp).cells; obtain ⟨u0, u1, u2, u3, u4, u5, u6, u7, u8⟩ := HK1.out.below s3.bl hg; clear s3)
    | (go_at_call 96; refine HT.out.mono ?_; rintro e w2 ⟨rfl, s2⟩; have S2 := Lib.hid s2; obtain ⟨b0, b1, b2, b3, b4, b5, b6, b7, b8⟩ := (HB.out.kp s2.kp).cells; obtain ⟨r0, r1, r2, r3, r4, r5, r6, r7, r8⟩ := HK0.out.below s2.bl hg; clear s2)))
  all_goals
    go_wp2_with (go_at_call 97; refine (around_any ⟨#[32, 61, 32]⟩ ⟨#[]⟩ (S3.out.al (bx h1 A1 k1.len c1)) HP1.out (by (try simp only [List.length_append, List.length_cons, List.length_nil, len_toList]); show _ + 3 + _ + 0 ≤ _; omega)).mono ?_; rintro e w4 ⟨rfl, s4⟩; have S4 := Lib.hid s4; clear s4)
    go_end0
    exact S4.out.done HW.out HKW.out (by simp [List.append_assoc])
end Go.Proofs.YticbcnhbpbaocaaGreatDoor

namespace Go.Proofs.YticbcnhbpbaocaaGreatDoor
open Go.RowKit T T.Fo
set_option linter.all false
set_option maxRecDepth 100000 in
set_option maxHeartbeats 4000000 in
theorem stm_6 {W : World} {B b : Nat} {d : Int} (t : ByteArray) (n p tk : Int) (tn : ByteArray) (r u : Int) (F : Fo) (tx : Bs) (P : PrnT 72 ⟨6, t, n, p, tk, tn, r, u⟩ F tx d B b W) :
    PrnT 116 ⟨6, t, n, p, tk, tn, r, u⟩ F tx d B b W := by
  intro A cap hcap hk l w hp hb hlen
  have HW := Lib.hid (hp.below1 (bx ⟨6, t, n, p, tk, tn, r, u⟩ A F.len cap))
  have HKW := Lib.hid (Kp.alloc w (bx ⟨6, t, n, p, tk, tn, r, u⟩ A F.len cap))
  have S1 := Lib.hid (hp.fresh (bx ⟨6, t, n, p, tk, tn, r, u⟩ A F.len cap))
  have HP := Lib.hid ((P A cap hcap hk).mono (hb.trans HW.out))
  obtain ⟨m, hme⟩ : ∃ m, F.len = m := ⟨_, rfl⟩
  rw [hme] at HP HW HKW S1 ⊢
  clear hk hcap hp hb P hme
  go_enter Tryz.func116, Tryz.ntmps116
  go_wp2_with (go_at_call 72; refine (S1.out.prn HP.out hlen).mono ?_; rintro e w2 ⟨rfl, s2⟩; have S2 := Lib.hid s2; clear s2)
  go_end0
  exact S2.out.done HW.out HKW.out rfl
set_option maxRecDepth 100000 in
set_option maxHeartbeats 4000000 in
theorem stm_10 {W : World} {B b : Nat} {d : Int} (t : ByteArray) (n p tk : Int) (tn : ByteArray) (r u : Int) (F : Fo) (tx : Bs) (P : PrnT 99 ⟨10, t, n, p, tk, tn, r, u⟩ F tx d B b W) :
    PrnT 116 ⟨10, t, n, p, tk, tn, r, u⟩ F tx d B b W := by
  intro A cap hcap hk l w hp hb hlen
  have HW := Lib.hid (hp.below1 (bx ⟨10, t, n, p, tk, tn, r, u⟩ A F.len cap))
  have HKW := Lib.hid (Kp.alloc w (bx ⟨10, t, n, p, tk, tn, r, u⟩ A F.len cap))
  have S1 := Lib.hid (hp.fresh (bx ⟨10, t, n, p, tk, tn, r, u⟩ A F.len cap))
  have HP := Lib.hid ((P A cap hcap hk).mono (hb.trans HW.out))
  obtain ⟨m, hme⟩ : ∃ m, F.len = m := ⟨_, rfl⟩
  rw [hme] at HP HW HKW S1 ⊢
  clear hk hcap hp hb P hme
  go_enter Tryz.func116, Tryz.ntmps116
  go_wp2_with (go_at_call 99; refine (S1.out.prn HP.out hlen).mono ?_; rintro e w2 ⟨rfl, s2⟩; have S2 := Lib.hid s2; clear s2)
  go_end0
  exact S2.out.done HW.out HKW.out rfl
set_option maxRecDepth 100000 in
set_option maxHeartbeats 4000000 in
theorem stm_13 {W : World} {B b : Nat} {d : Int} (t : ByteArray) (n p tk : Int) (tn : ByteArray) (r u : Int) (h0 : Hd) (k0 : Fo) (t0 : Bs) (P0 : PrnT 115 h0 k0 t0 d B b W) :
    PrnT 116 ⟨13, t, n, p, tk, tn, r, u⟩ (.cons h0 k0 .nil) (t0) d B b W := by
  intro A cap hcap hk
  show Prn 116 (nv ⟨13, t, n, p, tk, tn, r, u⟩ A 1 cap) (t0) d B b W
  intro l w hp hb hlen
  obtain ⟨g, o, A0, c0, rfl, hg, h90, hc0, hk0, hl0⟩ := kid1 hk
  have HW := Lib.hid (hp.below1 (bx ⟨13, t, n, p, tk, tn, r, u⟩ (some ⟨g, o, none⟩) 1 cap))
  have HKW := Lib.hid (Kp.alloc w (bx ⟨13, t, n, p, tk, tn, r, u⟩ (some ⟨g, o, none⟩) 1 cap))
  have S1 := Lib.hid (hp.fresh (bx ⟨13, t, n, p, tk, tn, r, u⟩ (some ⟨g, o, none⟩) 1 cap))
  have HB := Lib.hid (Nb.new w ⟨13, t, n, p, tk, tn, r, u⟩ (some ⟨g, o, none⟩) 1 cap)
  have HK0 := Lib.hid (h90.below (hb.trans HW.out) hg)
  have HP0 := Lib.hid ((P0 A0 c0 hc0 hk0).mono (hb.trans HW.out))
  try simp only [List.length_append, List.length_cons, List.length_nil, len_toList] at hlen
  clear hk hcap hp hb h90 hc0 hk0 hl0 P0
  obtain ⟨q000, q001, q002, q003, q004, q005, q006, q007, q008⟩ := HK0.out
  go_enter Tryz.func116, Tryz.ntmps116
  go_wp2_with (first
    | (go_at_call 115; refine (S1.out.prn HP0.out (by (try simp only [List.length_append, List.length_cons, List.length_nil, len_toList]); omega)).mono ?_; rintro e w2 ⟨rfl, s2⟩; have S2 := Lib.hid s2; clear s2))
  go_end0
  exact S2.out.done HW.out HKW.out (by simp [List.append_assoc])
set_option maxRecDepth 100000 in
set_option maxHeartbeats 4000000 in
theorem stm_14 {W : World} {B b : Nat} {d : Int} (t : ByteArray) (n p tk : Int) (tn : ByteArray) (r u : Int) (h0 : Hd) (k0 : Fo) (t0 : Bs) (P0 : PrnT 115 h0 k0 t0 d B b W) :
    PrnT 116 ⟨14, t, n, p, tk, tn, r, u⟩ (.cons h0 k0 .nil) ([103, 111, 32] ++ t0) d B b W := by
  intro A cap hcap hk
  show Prn 116 (nv ⟨14, t, n, p, tk, tn, r, u⟩ A 1 cap) ([103, 111, 32] ++ t0) d B b W
  intro l w hp hb hlen
  obtain ⟨g, o, A0, c0, rfl, hg, h90, hc0, hk0, hl0⟩ := kid1 hk
  have HW := Lib.hid (hp.below1 (bx ⟨14, t, n, p, tk, tn, r, u⟩ (some ⟨g, o, none⟩) 1 cap))
  have HKW := Lib.hid (Kp.alloc w (bx ⟨14, t, n, p, tk, tn, r, u⟩ (some ⟨g, o, none⟩) 1 cap))
  have S1 := Lib.hid (hp.fresh (bx ⟨14, t, n, p, tk, tn, r, u⟩ (some ⟨g, o, none⟩) 1 cap))
  have HB := Lib.hid (Nb.new w ⟨14, t, n, p, tk, tn, r, u⟩ (some ⟨g, o, none⟩) 1 cap)
  have HK0 := Lib.hid (h90.below (hb.trans HW.out) hg)
  have HP0 := Lib.hid ((P0 A0 c0 hc0 hk0).mono (hb.trans HW.out))
  try simp only [List.length_append, List.length_cons, List.length_nil, len_toList] at hlen
  clear hk hcap hp hb h90 hc0 hk0 hl0 P0
  obtain ⟨q000, q001, q002, q003, q004, q005, q006, q007, q008⟩ := HK0.out
  go_enter Tryz.func116, Tryz.ntmps116
  go_wp2_with (first
    | (go_at_call 97; refine (around_any ⟨#[103, 111, 32]⟩ ⟨#[]⟩ S1.out HP0.out (by (try simp only [List.length_append, List.length_cons, List.length_nil, len_toList]); omega)).mono ?_; rintro e w2 ⟨rfl, s2⟩; have S2 := Lib.hid s2; clear s2))
  go_end0
  exact S2.out.done HW.out HKW.out (by simp [List.append_assoc])
set_option maxRecDepth 100000 in
set_option maxHeartbeats 4000000 in
theorem stm_15 {W : World} {B b : Nat} {d : Int} (t : ByteArray) (n p tk : Int) (tn : ByteArray) (r u : Int) (h0 : Hd) (k0 : Fo) (t0 : Bs) (P0 : PrnT 115 h0 k0 t0 d B b W) :
    PrnT 116 ⟨15, t, n, p, tk, tn, r, u⟩ (.cons h0 k0 .nil) ([100, 101, 102, 101, 114, 32] ++ t0) d B b W := by
  intro A cap hcap hk
  show Prn 116 (nv ⟨15, t, n, p, tk, tn, r, u⟩ A 1 cap) ([100, 101, 102, 101, 114, 32] ++ t0) d B b W
  intro l w hp hb hlen
  obtain ⟨g, o, A0, c0, rfl, hg, h90, hc0, hk0, hl0⟩ := kid1 hk
  have HW := Lib.hid (hp.below1 (bx ⟨15, t, n, p, tk, tn, r, u⟩ (some ⟨g, o, none⟩) 1 cap))
  have HKW := Lib.hid (Kp.alloc w (bx ⟨15, t, n, p, tk, tn, r, u⟩ (some ⟨g, o, none⟩) 1 cap))
  have S1 := Lib.hid (hp.fresh (bx ⟨15, t, n, p, tk, tn, r, u⟩ (some ⟨g, o, none⟩) 1 cap))
  have HB := Lib.hid (Nb.new w ⟨15, t, n, p, tk, tn, r, u⟩ (some ⟨g, o, none⟩) 1 cap)
  have HK0 := Lib.hid (h90.below (hb.trans HW.out) hg)
  have HP0 := Lib.hid ((P0 A0 c0 hc0 hk0).mono (hb.trans HW.out))
  try simp only [List.length_append, List.length_cons, List.length_nil, len_toList] at hlen
  clear hk hcap hp hb h90 hc0 hk0 hl0 P0
  obtain ⟨q000, q001, q002, q003, q004, q005, q006, q007, q008⟩ := HK0.out
  go_enter Tryz.func116, Tryz.ntmps116
  go_wp2_with (first
    | (go_at_call 97; refine (around_any ⟨#[100, 101, 102, 101, 114, 32]⟩ ⟨#[]⟩ S1.out HP0.out (by (try simp only [List.length_append, List.length_cons, List.length_nil, len_toList]); omega)).mono ?_; rintro e w2 ⟨rfl, s2⟩; have S2 := Lib.hid s2; clear s2))
  go_end0
  exact S2.out.done HW.out HKW.out (by simp [List.append_assoc])
end Go.Proofs.YticbcnhbpbaocaaGreatDoor

namespace Go.Proofs.YticbcnhbpbaocaaGreatDoor
open Go.RowKit T T.Fo
set_option linter.all false
set_option maxRecDepth 100000 in
set_option maxHeartbeats 4000000 in
theorem stm_17 {W : World} {B b : Nat} {d : Int} (t : ByteArray) (n p tk : Int) (tn : ByteArray) (r u : Int) (h0 : Hd) (k0 : Fo) (t0 : Bs) (P0 : PrnT 115 h0 k0 t0 d B b W) :
    PrnT 116 ⟨17, t, n, p, tk, tn, r, u⟩ (.cons h0 k0 .nil) ([99, 108, 111, 115, 101, 40] ++ t0 ++ [41]) d B b W := by
  intro A cap hcap hk
  show Prn 116 (nv ⟨17, t, n, p, tk, tn, r, u⟩ A 1 cap) ([99, 108, 111, 115, 101, 40] ++ t0 ++ [41]) d B b W
  intro l w hp hb hlen
  obtain ⟨g, o, A0, c0, rfl, hg, h90, hc0, hk0, hl0⟩ := kid1 hk
  have HW := Lib.hid (hp.below1 (bx ⟨17, t, n, p, tk, tn, r, u⟩ (some ⟨g, o, none⟩) 1 cap))
  have HKW := Lib.hid (Kp.alloc w (bx ⟨17, t, n, p, tk, tn, r, u⟩ (some ⟨g, o, none⟩) 1 cap))
  have S1 := Lib.hid (hp.fresh (bx ⟨17, t, n, p, tk, tn, r, u⟩ (some ⟨g, o, none⟩) 1 cap))
  have HB := Lib.hid (Nb.new w ⟨17, t, n, p, tk, tn, r, u⟩ (some ⟨g, o, none⟩) 1 cap)
  have HK0 := Lib.hid (h90.below (hb.trans HW.out) hg)
  have HP0 := Lib.hid ((P0 A0 c0 hc0 hk0).mono (hb.trans HW.out))
  simp only [List.length_append, List.length_cons, List.length_nil, len_toList] at hlen
  clear hk hcap hp hb h90 hc0 hk0 hl0 P0
  obtain ⟨q000, q001, q002, q003, q004, q005, q006, q007, q008⟩ := HK0.out
  go_enter Tryz.func116, Tryz.ntmps116
  go_wp2_with (first
    | (go_at_call 97; refine (around_any ⟨#[99, 108, 111, 115, 101, 40]⟩ ⟨#[41]⟩ S1.out HP0.out (by (try simp only [List.length_append, List.length_cons, List.length_nil, len_toList]); omega)).mono ?_; rintro e w2 ⟨rfl, s2⟩; have S2 := Lib.hid s2; clear s2))
  go_end0
  exact S2.out.done HW.out HKW.out (by simp [List.append_assoc])
set_option maxRecDepth 100000 in
set_option maxHeartbeats 4000000 in
theorem stm_21 {W : World} {B b : Nat} {d : Int} (t : ByteArray) (n p tk : Int) (tn : ByteArray) (r u : Int) (h0 : Hd) (k0 : Fo) (t0 : Bs) (P0 : PrnT 115 h0 k0 t0 d B b W) :
    PrnT 116 ⟨21, t, n, p, tk, tn, r, u⟩ (.cons h0 k0 .nil) ([112, 114, 105, 110, 116, 40] ++ t0 ++ [41]) d B b W := by
  intro A cap hcap hk
  show Prn 116 (nv ⟨21, t, n, p, tk, tn, r, u⟩ A 1 cap) ([112, 114, 105, 110, 116, 40] ++ t0 ++ [41]) d B b W
  intro l w hp hb hlen
  obtain ⟨g, o, A0, c0, rfl, hg, h90, hc0, hk0, hl0⟩ := kid1 hk
  have HW := Lib.hid (hp.below1 (bx ⟨21, t, n, p, tk, tn, r, u⟩ (some ⟨g, o, none⟩) 1 cap))
  have HKW := Lib.hid (Kp.alloc w (bx ⟨21, t, n, p, tk, tn, r, u⟩ (some ⟨g, o, none⟩) 1 cap))
  have S1 := Lib.hid (hp.fresh (bx ⟨21, t, n, p, tk, tn, r, u⟩ (some ⟨g, o, none⟩) 1 cap))
  have HB := Lib.hid (Nb.new w ⟨21, t, n, p, tk, tn, r, u⟩ (some ⟨g, o, none⟩) 1 cap)
  have HK0 := Lib.hid (h90.below (hb.trans HW.out) hg)
  have HP0 := Lib.hid ((P0 A0 c0 hc0 hk0).mono (hb.trans HW.out))
  simp only [List.length_append, List.length_cons, List.length_nil, len_toList] at hlen
  clear hk hcap hp hb h90 hc0 hk0 hl0 P0
  obtain ⟨q000, q001, q002, q003, q004, q005, q006, q007, q008⟩ := HK0.out
  go_enter Tryz.func116, Tryz.ntmps116
  go_wp2_with (first
    | (go_at_call 97; refine (around_any ⟨#[112, 114, 105, 110, 116, 40]⟩ ⟨#[41]⟩ S1.out HP0.out (by (try simp only [List.length_append, List.length_cons, List.length_nil, len_toList]); omega)).mono ?_; rintro e w2 ⟨rfl, s2⟩; have S2 := Lib.hid s2; clear s2))
  go_end0
  exact S2.out.done HW.out HKW.out (by simp [List.append_assoc])
set_option maxRecDepth 100000 in
set_option maxHeartbeats 4000000 in
theorem stm_18 {W : World} {B b : Nat} {d : Int} (t : ByteArray) (n p tk : Int) (tn : ByteArray) (r u : Int) (F : Fo) (tx : Bs) (P : PrnT 133 ⟨18, t, n, p, tk, tn, r, u⟩ F tx d B b W) :
    PrnT 116 ⟨18, t, n, p, tk, tn, r, u⟩ F tx d B b W := by
  intro A cap hcap hk l w hp hb hlen
  have HW := Lib.hid (hp.below1 (bx ⟨18, t, n, p, tk, tn, r, u⟩ A F.len cap))
  have HKW := Lib.hid (Kp.alloc w (bx ⟨18, t, n, p, tk, tn, r, u⟩ A F.len cap))
  have S1 := Lib.hid (hp.fresh (bx ⟨18, t, n, p, tk, tn, r, u⟩ A F.len cap))
  have HP := Lib.hid ((P A cap hcap hk).mono (hb.trans HW.out))
  obtain ⟨m, hme⟩ : ∃ m, F.len = m := ⟨_, rfl⟩
  rw [hme] at HP HW HKW S1 ⊢
  clear hk hcap hp hb P hme
  go_enter Tryz.func116, Tryz.ntmps116
  go_wp2_with (go_at_call 133; refine (S1.out.prn HP.out hlen).mono ?_; rintro e w2 ⟨rfl, s2⟩; have S2 := Lib.hid s2; clear s2)
  go_end0
  exact S2.out.done HW.out HKW.out rfl
end Go.Proofs.YticbcnhbpbaocaaGreatDoor

namespace Go.Proofs.YticbcnhbpbaocaaGreatDoor
open Go.RowKit T T.Fo
set_option linter.all false
set_option maxRecDepth 100000 in
set_option maxHeartbeats 4000000 in
theorem stm_19 {W : World} {B b : Nat} {d : Int} (t : ByteArray) (n p tk : Int) (tn : ByteArray) (r u : Int) (F : Fo) (tx : Bs) (P : PrnT 134 ⟨19, t, n, p, tk, tn, r, u⟩ F tx d B b W) :
    PrnT 116 ⟨19, t, n, p, tk, tn, r, u⟩ F tx d B b W := by
  intro A cap hcap hk l w hp hb hlen
  have HW := Lib.hid (hp.below1 (bx ⟨19, t, n, p, tk, tn, r, u⟩ A F.len cap))
  have HKW := Lib.hid (Kp.alloc w (bx ⟨19, t, n, p, tk, tn, r, u⟩ A F.len cap))
  have S1 := Lib.hid (hp.fresh (bx ⟨19, t, n, p, tk, tn, r, u⟩ A F.len cap))
  have HP := Lib.hid ((P A cap hcap hk).mono (hb.trans HW.out))
  obtain ⟨m, hme⟩ : ∃ m, F.len = m := ⟨_, rfl⟩
  rw [hme] at HP HW HKW S1 ⊢
  clear hk hcap hp hb P hme
  go_enter Tryz.func116, Tryz.ntmps116
  go_wp2_with (go_at_call 134; refine (S1.out.prn HP.out hlen).mono ?_; rintro e w2 ⟨rfl, s2⟩; have S2 := Lib.hid s2; clear s2)
  go_end0
  exact S2.out.done HW.out HKW.out rfl
set_option maxRecDepth 100000 in
set_option maxHeartbeats 4000000 in
theorem stm_20 {W : World} {B b : Nat} {d : Int} (t : ByteArray) (n p tk : Int) (tn : ByteArray) (r u : Int) (F : Fo) (tx : Bs) (P : PrnT 135 ⟨20, t, n, p, tk, tn, r, u⟩ F tx d B b W) :
    PrnT 116 ⟨20, t, n, p, tk, tn, r, u⟩ F tx d B b W := by
  intro A cap hcap hk l w hp hb hlen
  have HW := Lib.hid (hp.below1 (bx ⟨20, t, n, p, tk, tn, r, u⟩ A F.len cap))
  have HKW := Lib.hid (Kp.alloc w (bx ⟨20, t, n, p, tk, tn, r, u⟩ A F.len cap))
  have S1 := Lib.hid (hp.fresh (bx ⟨20, t, n, p, tk, tn, r, u⟩ A F.len cap))
  have HP := Lib.hid ((P A cap hcap hk).mono (hb.trans HW.out))
  obtain ⟨m, hme⟩ : ∃ m, F.len = m := ⟨_, rfl⟩
  rw [hme] at HP HW HKW S1 ⊢
  clear hk hcap hp hb P hme
  go_enter Tryz.func116, Tryz.ntmps116
  go_wp2_with (go_at_call 135; refine (S1.out.prn HP.out hlen).mono ?_; rintro e w2 ⟨rfl, s2⟩; have S2 := Lib.hid s2; clear s2)
  go_end0
  exact S2.out.done HW.out HKW.out rfl
set_option maxRecDepth 100000 in
set_option maxHeartbeats 4000000 in
theorem stm_22 {W : World} {B b : Nat} {d : Int} (t : ByteArray) (n p tk : Int) (tn : ByteArray) (r u : Int) (F : Fo) (tx : Bs) (P : PrnT 136 ⟨22, t, n, p, tk, tn, r, u⟩ F tx d B b W) :
    PrnT 116 ⟨22, t, n, p, tk, tn, r, u⟩ F tx d B b W := by
  intro A cap hcap hk l w hp hb hlen
  have HW := Lib.hid (hp.below1 (bx ⟨22, t, n, p, tk, tn, r, u⟩ A F.len cap))
  have HKW := Lib.hid (Kp.alloc w (bx ⟨22, t, n, p, tk, tn, r, u⟩ A F.len cap))
  have S1 := Lib.hid (hp.fresh (bx ⟨22, t, n, p, tk, tn, r, u⟩ A F.len cap))
  have HP := Lib.hid ((P A cap hcap hk).mono (hb.trans HW.out))
  obtain ⟨m, hme⟩ : ∃ m, F.len = m := ⟨_, rfl⟩
  rw [hme] at HP HW HKW S1 ⊢
  clear hk hcap hp hb P hme
  go_enter Tryz.func116, Tryz.ntmps116
  go_wp2_with (go_at_call 136; refine (S1.out.prn HP.out hlen).mono ?_; rintro e w2 ⟨rfl, s2⟩; have S2 := Lib.hid s2; clear s2)
  go_end0
  exact S2.out.done HW.out HKW.out rfl
set_option maxRecDepth 100000 in
set_option maxHeartbeats 4000000 in
theorem dec_6 {W : World} {B b : Nat} {d : Int} (t : ByteArray) (n p tk : Int) (tn : ByteArray) (r u : Int) (F : Fo) (tx : Bs) (P : PrnT 72 ⟨6, t, n, p, tk, tn, r, u⟩ F tx d B b W) :
    PrnT 51 ⟨6, t, n, p, tk, tn, r, u⟩ F tx d B b W := by
  intro A cap hcap hk l w hp hb hlen
  have HW := Lib.hid (hp.below1 (bx ⟨6, t, n, p, tk, tn, r, u⟩ A F.len cap))
  have HKW := Lib.hid (Kp.alloc w (bx ⟨6, t, n, p, tk, tn, r, u⟩ A F.len cap))
  have S1 := Lib.hid (hp.fresh (bx ⟨6, t, n, p, tk, tn, r, u⟩ A F.len cap))
  have HP := Lib.hid ((P A cap hcap hk).mono (hb.trans HW.out))
  obtain ⟨m, hme⟩ : ∃ m, F.len = m := ⟨_, rfl⟩
  rw [hme] at HP HW HKW S1 ⊢
  clear hk hcap hp hb P hme
  go_enter Tryz.func51, Tryz.ntmps51
  go_wp2_with (go_at_call 72; refine (S1.out.prn HP.out hlen).mono ?_; rintro e w2 ⟨rfl, s2⟩; have S2 := Lib.hid s2; clear s2)
  go_end0
  exact S2.out.done HW.out HKW.out rfl
set_option maxRecDepth 100000 in
set_option maxHeartbeats 4000000 in
theorem dec_4 {W : World} {B b : Nat} {d : Int} (t : ByteArray) (n p tk : Int) (tn : ByteArray) (r u : Int) (F : Fo) (tx : Bs) (P : PrnT 73 ⟨4, t, n, p, tk, tn, r, u⟩ F tx d B b W) :
    PrnT 51 ⟨4, t, n, p, tk, tn, r, u⟩ F tx d B b W := by
  intro A cap hcap hk l w hp hb hlen
  have HW := Lib.hid (hp.below1 (bx ⟨4, t, n, p, tk, tn, r, u⟩ A F.len cap))
  have HKW := Lib.hid (Kp.alloc w (bx ⟨4, t, n, p, tk, tn, r, u⟩ A F.len cap))
  have S1 := Lib.hid (hp.fresh (bx ⟨4, t, n, p, tk, tn, r, u⟩ A F.len cap))
  have HP := Lib.hid ((P A cap hcap hk).mono (hb.trans HW.out))
  obtain ⟨m, hme⟩ : ∃ m, F.len = m := ⟨_, rfl⟩
  rw [hme] at HP HW HKW S1 ⊢
  clear hk hcap hp hb P hme
  go_enter Tryz.func51, Tryz.ntmps51
  go_wp2_with (go_at_call 73; refine (S1.out.prn HP.out hlen).mono ?_; rintro e w2 ⟨rfl, s2⟩; have S2 := Lib.hid s2; clear s2)
  go_end0
  exact S2.out.done HW.out HKW.out rfl
end Go.Proofs.YticbcnhbpbaocaaGreatDoor
