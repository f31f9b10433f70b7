/-
  The walks of statement, by kinds.
  The walks of statement, by kinds.
  The walks of statement, by kinds.
  The walks of statement, by kinds.
  The walks of statement, by kinds.
-/
import Derived.Test.YticbcnhbpbaocaaGreatDoorQC
import Derived.Test.YticbcnhbpbaocaaGreatDoorQD

set_option linter.all false
namespace Go.Proofs.YticbcnhbpbaocaaGreatDoor
open Go.RowKit T T.Fo
set_option linter.all false
set_option maxRecDepth 100000 in
set_option maxHeartbeats 4000000 in
theorem stm_11 {W : World} {B b : Nat} {d : Int} (t : ByteArray) (n p tk : Int) (tn : ByteArray) (r u : Int) (h0 : Hd) (k0 : Fo) (t0 : Bs) (P0 : PrnT 115 h0 k0 t0 d B b W) :
    PrnT 116 ⟨11, t, n, p, tk, tn, r, u⟩ (.cons h0 k0 .nil) (t.data.toList ++ [32, 58, 61, 32] ++ t0) d B b W := by
  intro A cap hcap hk
  show Prn 116 (nv ⟨11, t, n, p, tk, tn, r, u⟩ A 1 cap) (t.data.toList ++ [32, 58, 61, 32] ++ t0) d B b W
  intro l w hp hb hlen
  obtain ⟨g, o, A0, c0, rfl, hg, h90, hc0, hk0, hl0⟩ := kid1 hk
  have HW := Lib.hid (hp.below1 (bx ⟨11, t, n, p, tk, tn, r, u⟩ (some ⟨g, o, none⟩) 1 cap))
  have HKW := Lib.hid (Kp.alloc w (bx ⟨11, t, n, p, tk, tn, r, u⟩ (some ⟨g, o, none⟩) 1 cap))
  have S1 := Lib.hid (hp.fresh (bx ⟨11, t, n, p, tk, tn, r, u⟩ (some ⟨g, o, none⟩) 1 cap))
  have HB := Lib.hid (Nb.new w ⟨11, t, n, p, tk, tn, r, u⟩ (some ⟨g, o, none⟩) 1 cap)
  have HK0 := Lib.hid (h90.below (hb.trans HW.out) hg)
  have HP0 := Lib.hid ((P0 A0 c0 hc0 hk0).mono (hb.trans HW.out))
  try simp only [List.length_append, List.length_cons, List.length_nil, len_toList] at hlen
  clear hk hcap hp hb h90 hc0 hk0 hl0 P0
  obtain ⟨q000, q001, q002, q003, q004, q005, q006, q007, q008⟩ := HK0.out
  have hz1 : t.size + 4 ≤ 9223372036854775807 := by unfold lim at hlen; omega
  have hz2 : ¬ 9223372036854775807 < t.size + 4 := by omega
  have l11 : (t ++ (⟨#[32, 58, 61, 32]⟩ : ByteArray)).data.toList.length = t.size + 4 := by rw [len_toList, ByteArray.size_append]; rfl
  have e11 : (t ++ (⟨#[32, 58, 61, 32]⟩ : ByteArray)).data.toList = t.data.toList ++ [32, 58, 61, 32] := by simp
  have E11 := Lib.hid e11
  clear e11
  go_enter Tryz.func116, Tryz.ntmps116
  go_wp2
  go_region_law ((go_simp; go_at_call 97; have hx := around_any (t ++ ⟨#[32, 58, 61, 32]⟩) ⟨#[]⟩ S1.out.dr HP0.out (by rw [l11]; show _ + _ + _ + 0 ≤ _; omega); refine hx.mono ?_; rintro e w2 ⟨rfl, s2⟩; have S2 := Lib.hid s2; clear s2 hx))
  all_goals
    go_wp2
    go_end0
    exact S2.out.done HW.out HKW.out (by rw [E11.out]; simp [List.append_assoc])
end Go.Proofs.YticbcnhbpbaocaaGreatDoor

namespace Go.Proofs.YticbcnhbpbaocaaGreatDoor
open Go.RowKit T T.Fo
set_option linter.all false
set_option maxRecDepth 100000 in
set_option maxHeartbeats 4000000 in
theorem stm_12 {W : World} {B b : Nat} {d : Int} (t : ByteArray) (n p tk : Int) (tn : ByteArray) (r u : Int) (h0 : Hd) (k0 : Fo) (t0 : Bs) (h1 : Hd) (k1 : Fo) (t1 : Bs) (P0 : PrnT 115 h0 k0 t0 d B b W) (P1 : PrnT 115 h1 k1 t1 d B b W) :
    PrnT 116 ⟨12, t, n, p, tk, tn, r, u⟩ (.cons h0 k0 (.cons h1 k1 .nil)) (t0 ++ [32, 61, 32] ++ t1) d B b W := by
  intro A cap hcap hk
  show Prn 116 (nv ⟨12, t, n, p, tk, tn, r, u⟩ A 2 cap) (t0 ++ [32, 61, 32] ++ t1) d B b W
  intro l w hp hb hlen
  obtain ⟨g, o, A0, c0, rfl, hg, h90, hc0, hk0, hl0⟩ := kid1 hk
  obtain ⟨A1, c1, _, h91, hc1, hk1, hl1⟩ := lie1 hl0
  have HW := Lib.hid (hp.below1 (bx ⟨12, t, n, p, tk, tn, r, u⟩ (some ⟨g, o, none⟩) 2 cap))
  have HKW := Lib.hid (Kp.alloc w (bx ⟨12, t, n, p, tk, tn, r, u⟩ (some ⟨g, o, none⟩) 2 cap))
  have S1 := Lib.hid (hp.fresh (bx ⟨12, t, n, p, tk, tn, r, u⟩ (some ⟨g, o, none⟩) 2 cap))
  have HB := Lib.hid (Nb.new w ⟨12, t, n, p, tk, tn, r, u⟩ (some ⟨g, o, none⟩) 2 cap)
  have HK0 := Lib.hid (h90.below (hb.trans HW.out) hg)
  have HP0 := Lib.hid ((P0 A0 c0 hc0 hk0).mono (hb.trans HW.out))
  have HK1 := Lib.hid (h91.below (hb.trans HW.out) hg)
  have HP1 := Lib.hid ((P1 A1 c1 hc1 hk1).mono (hb.trans HW.out))
  try simp only [List.length_append, List.length_cons, List.length_nil, len_toList] at hlen
  clear hk hcap hp hb h90 hc0 hk0 hl0 h91 hc1 hk1 hl1 P0 P1
  obtain ⟨q000, q001, q002, q003, q004, q005, q006, q007, q008⟩ := HK0.out
  obtain ⟨q100, q101, q102, q103, q104, q105, q106, q107, q108⟩ := HK1.out
  go_enter Tryz.func116, Tryz.ntmps116
  go_wp2
  go_region_law ((go_simp; go_at_call 132; refine (between_any ⟨#[32, 61, 32]⟩ S1.out.dr HP0.out HP1.out (by show _ + _ + 3 + _ ≤ _; omega)).mono ?_; rintro e w2 ⟨rfl, s2⟩; have S2 := Lib.hid s2; clear s2))
  all_goals
    go_wp2
    go_end0
    exact S2.out.done HW.out HKW.out (by simp [List.append_assoc])
set_option maxRecDepth 100000 in
set_option maxHeartbeats 4000000 in
theorem stm_16 {W : World} {B b : Nat} {d : Int} (t : ByteArray) (n p tk : Int) (tn : ByteArray) (r u : Int) (h0 : Hd) (k0 : Fo) (t0 : Bs) (h1 : Hd) (k1 : Fo) (t1 : Bs) (P0 : PrnT 115 h0 k0 t0 d B b W) (P1 : PrnT 115 h1 k1 t1 d B b W) :
    PrnT 116 ⟨16, t, n, p, tk, tn, r, u⟩ (.cons h0 k0 (.cons h1 k1 .nil)) (t0 ++ [32, 60, 45, 32] ++ t1) d B b W := by
  intro A cap hcap hk
  show Prn 116 (nv ⟨16, t, n, p, tk, tn, r, u⟩ A 2 cap) (t0 ++ [32, 60, 45, 32] ++ t1) d B b W
  intro l w hp hb hlen
  obtain ⟨g, o, A0, c0, rfl, hg, h90, hc0, hk0, hl0⟩ := kid1 hk
  obtain ⟨A1, c1, _, h91, hc1, hk1, hl1⟩ := lie1 hl0
  have HW := Lib.hid (hp.below1 (bx ⟨16, t, n, p, tk, tn, r, u⟩ (some ⟨g, o, none⟩) 2 cap))
  have HKW := Lib.hid (Kp.alloc w (bx ⟨16, t, n, p, tk, tn, r, u⟩ (some ⟨g, o, none⟩) 2 cap))
  have S1 := Lib.hid (hp.fresh (bx ⟨16, t, n, p, tk, tn, r, u⟩ (some ⟨g, o, none⟩) 2 cap))
  have HB := Lib.hid (Nb.new w ⟨16, t, n, p, tk, tn, r, u⟩ (some ⟨g, o, none⟩) 2 cap)
  have HK0 := Lib.hid (h90.below (hb.trans HW.out) hg)
  have HP0 := Lib.hid ((P0 A0 c0 hc0 hk0).mono (hb.trans HW.out))
  have HK1 := Lib.hid (h91.below (hb.trans HW.out) hg)
  have HP1 := Lib.hid ((P1 A1 c1 hc1 hk1).mono (hb.trans HW.out))
  try simp only [List.length_append, List.length_cons, List.length_nil, len_toList] at hlen
  clear hk hcap hp hb h90 hc0 hk0 hl0 h91 hc1 hk1 hl1 P0 P1
  obtain ⟨q000, q001, q002, q003, q004, q005, q006, q007, q008⟩ := HK0.out
  obtain ⟨q100, q101, q102, q103, q104, q105, q106, q107, q108⟩ := HK1.out
  go_enter Tryz.func116, Tryz.ntmps116
  go_wp2
  go_region_law ((go_simp; go_at_call 132; refine (between_any ⟨#[32, 60, 45, 32]⟩ S1.out.dr HP0.out HP1.out (by show _ + _ + 4 + _ ≤ _; omega)).mono ?_; rintro e w2 ⟨rfl, s2⟩; have S2 := Lib.hid s2; clear s2))
  all_goals
    go_wp2
    go_end0
    exact S2.out.done HW.out HKW.out (by simp [List.append_assoc])
end Go.Proofs.YticbcnhbpbaocaaGreatDoor

namespace Go.Proofs.YticbcnhbpbaocaaGreatDoor
open Go.RowKit T T.Fo
set_option linter.all false
set_option maxRecDepth 100000 in
set_option maxHeartbeats 4000000 in
theorem cond_no {W : World} {B b : Nat} {d : Int} (h : Hd) (h0 : Hd) (k0 : Fo) (t0 : Bs) (h1 : Hd) (k1 : Fo) (t1 : Bs) (h2 : Hd) (k2 : Fo) (P0 : PrnT 115 h0 k0 t0 d B b W) (P1 : PrnT 99 h1 k1 t1 d B b W) (h9 : (h2.kind == 9) = true) :
    PrnT 133 h (.cons h0 k0 (.cons h1 k1 (.cons h2 k2 .nil))) ([105, 102, 32] ++ t0 ++ [32] ++ t1) d B b W := by
  intro A cap hcap hk
  show Prn 133 (nv h A 3 cap) ([105, 102, 32] ++ t0 ++ [32] ++ t1) d B b W
  intro l w hp hb hlen
  obtain ⟨g, o, A0, c0, rfl, hg, h90, hc0, hk0, hl0⟩ := kid1 hk
  obtain ⟨A1, c1, _, h91, hc1, hk1, hl1⟩ := lie1 hl0
  obtain ⟨A2, c2, _, h92, hc2, hk2, hl2⟩ := lie1 hl1
  have HW := Lib.hid (hp.below1 (bx h (some ⟨g, o, none⟩) 3 cap))
  have HKW := Lib.hid (Kp.alloc w (bx h (some ⟨g, o, none⟩) 3 cap))
  have S1 := Lib.hid (hp.fresh (bx h (some ⟨g, o, none⟩) 3 cap))
  have HB := Lib.hid (Nb.new w h (some ⟨g, o, none⟩) 3 cap)
  have HK0 := Lib.hid (h90.below (hb.trans HW.out) hg)
  have HP0 := Lib.hid ((P0 A0 c0 hc0 hk0).mono (hb.trans HW.out))
  have HK1 := Lib.hid (h91.below (hb.trans HW.out) hg)
  have HP1 := Lib.hid ((P1 A1 c1 hc1 hk1).mono (hb.trans HW.out))
  have HK2 := Lib.hid (h92.below (hb.trans HW.out) hg)
  try simp only [List.length_append, List.length_cons, List.length_nil, len_toList] at hlen
  clear hk hcap hp hb h90 hc0 hk0 hl0 h91 hc1 hk1 hl1 h92 hc2 hk2 hl2 P0 P1
  obtain ⟨q000, q001, q002, q003, q004, q005, q006, q007, q008⟩ := HK0.out
  obtain ⟨q100, q101, q102, q103, q104, q105, q106, q107, q108⟩ := HK1.out
  obtain ⟨q200, q201, q202, q203, q204, q205, q206, q207, q208⟩ := HK2.out
  go_enter Tryz.func133, Tryz.ntmps133
  go_wp2_with (first
    | (go_at_call 99; refine (S2.out.prn HP1.out (by (try simp only [List.length_append, List.length_cons, List.length_nil, len_toList]); (try show _ ≤ _); omega)).mono ?_; rintro e w3 ⟨rfl, s3⟩; have S3 := Lib.hid s3; obtain ⟨b20, b21, b22, b23, b24, b25, b26, b27, b28⟩ := (HB.out.kp s3.kp).cells; obtain ⟨q020, q021, q022, q023, q024, q025, q026, q027, q028⟩ := HK0.out.below s3.bl hg; obtain ⟨q120, q121, q122, q123, q124, q125, q126, q127, q128⟩ := HK1.out.below s3.bl hg; obtain ⟨q220, q221, q222, q223, q224, q225, q226, q227, q228⟩ := HK2.out.below s3.bl hg; clear s3)
    | (go_at_call 97; refine (around_any ⟨#[105, 102, 32]⟩ ⟨#[32]⟩ S1.out HP0.out (by (try simp only [List.length_append, List.length_cons, List.length_nil, len_toList]); (try show _ ≤ _); omega)).mono ?_; rintro e w2 ⟨rfl, s2⟩; have S2 := Lib.hid s2; obtain ⟨b10, b11, b12, b13, b14, b15, b16, b17, b18⟩ := (HB.out.kp s2.kp).cells; obtain ⟨q010, q011, q012, q013, q014, q015, q016, q017, q018⟩ := HK0.out.below s2.bl hg; obtain ⟨q110, q111, q112, q113, q114, q115, q116, q117, q118⟩ := HK1.out.below s2.bl hg; obtain ⟨q210, q211, q212, q213, q214, q215, q216, q217, q218⟩ := HK2.out.below s2.bl hg; clear s2))
  go_end0
  exact (S3.out.al (bx h2 A2 k2.len c2)).done HW.out HKW.out (by simp [List.append_assoc])
set_option maxRecDepth 100000 in
set_option maxHeartbeats 4000000 in
theorem cond_yes {W : World} {B b : Nat} {d : Int} (h : Hd) (h0 : Hd) (k0 : Fo) (t0 : Bs) (h1 : Hd) (k1 : Fo) (t1 : Bs) (h2 : Hd) (k2 : Fo) (t2 : Bs) (P0 : PrnT 115 h0 k0 t0 d B b W) (P1 : PrnT 99 h1 k1 t1 d B b W) (P2 : PrnT 116 h2 k2 t2 d B b W) (h9 : (h2.kind == 9) = false) :
    PrnT 133 h (.cons h0 k0 (.cons h1 k1 (.cons h2 k2 .nil))) ([105, 102, 32] ++ t0 ++ [32] ++ t1 ++ [32, 101, 108, 115, 101, 32] ++ t2) d B b W := by
  intro A cap hcap hk
  show Prn 133 (nv h A 3 cap) ([105, 102, 32] ++ t0 ++ [32] ++ t1 ++ [32, 101, 108, 115, 101, 32] ++ t2) d B b W
  intro l w hp hb hlen
  obtain ⟨g, o, A0, c0, rfl, hg, h90, hc0, hk0, hl0⟩ := kid1 hk
  obtain ⟨A1, c1, _, h91, hc1, hk1, hl1⟩ := lie1 hl0
  obtain ⟨A2, c2, _, h92, hc2, hk2, hl2⟩ := lie1 hl1
  have HW := Lib.hid (hp.below1 (bx h (some ⟨g, o, none⟩) 3 cap))
  have HKW := Lib.hid (Kp.alloc w (bx h (some ⟨g, o, none⟩) 3 cap))
  have S1 := Lib.hid (hp.fresh (bx h (some ⟨g, o, none⟩) 3 cap))
  have HB := Lib.hid (Nb.new w h (some ⟨g, o, none⟩) 3 cap)
  have HK0 := Lib.hid (h90.below (hb.trans HW.out) hg)
  have HP0 := Lib.hid ((P0 A0 c0 hc0 hk0).mono (hb.trans HW.out))
  have HK1 := Lib.hid (h91.below (hb.trans HW.out) hg)
  have HP1 := Lib.hid ((P1 A1 c1 hc1 hk1).mono (hb.trans HW.out))
  have HK2 := Lib.hid (h92.below (hb.trans HW.out) hg)
  have HP2 := Lib.hid ((P2 A2 c2 hc2 hk2).mono (hb.trans HW.out))
  try simp only [List.length_append, List.length_cons, List.length_nil, len_toList] at hlen
  clear hk hcap hp hb h90 hc0 hk0 hl0 h91 hc1 hk1 hl1 h92 hc2 hk2 hl2 P0 P1 P2
  obtain ⟨q000, q001, q002, q003, q004, q005, q006, q007, q008⟩ := HK0.out
  obtain ⟨q100, q101, q102, q103, q104, q105, q106, q107, q108⟩ := HK1.out
  obtain ⟨q200, q201, q202, q203, q204, q205, q206, q207, q208⟩ := HK2.out
  go_enter Tryz.func133, Tryz.ntmps133
  go_wp2_with (first
    | (go_at_call 116; refine (S4.out.prn HP2.out (by (try simp only [List.length_append, List.length_cons, List.length_nil, len_toList]); (try show _ ≤ _); omega)).mono ?_; rintro e w5 ⟨rfl, s5⟩; have S5 := Lib.hid s5; obtain ⟨b40, b41, b42, b43, b44, b45, b46, b47, b48⟩ := (HB.out.kp s5.kp).cells; obtain ⟨q040, q041, q042, q043, q044, q045, q046, q047, q048⟩ := HK0.out.below s5.bl hg; obtain ⟨q140, q141, q142, q143, q144, q145, q146, q147, q148⟩ := HK1.out.below s5.bl hg; obtain ⟨q240, q241, q242, q243, q244, q245, q246, q247, q248⟩ := HK2.out.below s5.bl hg; clear s5)
    | (go_at_call 52; refine (write1 (Sn.start (S3.out.al (bx h2 A2 k2.len c2)).pz) ⟨#[32, 101, 108, 115, 101, 32]⟩ (by (try simp only [List.length_append, List.length_cons, List.length_nil, len_toList]); (try show _ ≤ _); omega) (by simp)).mono ?_; rintro e w4 ⟨rfl, s4⟩; obtain ⟨x0, x1, x2, x3, x4, x5, x6, x7, x8⟩ := ((Nb.new w3 h2 A2 k2.len c2).kp s4.kp).cells; have S4 := Lib.hid ((S3.out.al (bx h2 A2 k2.len c2)).trans s4); clear s4)
    | (go_at_call 99; refine (S2.out.prn HP1.out (by (try simp only [List.length_append, List.length_cons, List.length_nil, len_toList]); (try show _ ≤ _); omega)).mono ?_; rintro e w3 ⟨rfl, s3⟩; have S3 := Lib.hid s3; obtain ⟨b20, b21, b22, b23, b24, b25, b26, b27, b28⟩ := (HB.out.kp s3.kp).cells; obtain ⟨q020, q021, q022, q023, q024, q025, q026, q027, q028⟩ := HK0.out.below s3.bl hg; obtain ⟨q120, q121, q122, q123, q124, q125, q126, q127, q128⟩ := HK1.out.below s3.bl hg; obtain ⟨q220, q221, q222, q223, q224, q225, q226, q227, q228⟩ := HK2.out.below s3.bl hg; clear s3)
    | (go_at_call 97; refine (around_any ⟨#[105, 102, 32]⟩ ⟨#[32]⟩ S1.out HP0.out (by (try simp only [List.length_append, List.length_cons, List.length_nil, len_toList]); (try show _ ≤ _); omega)).mono ?_; rintro e w2 ⟨rfl, s2⟩; have S2 := Lib.hid s2; obtain ⟨b10, b11, b12, b13, b14, b15, b16, b17, b18⟩ := (HB.out.kp s2.kp).cells; obtain ⟨q010, q011, q012, q013, q014, q015, q016, q017, q018⟩ := HK0.out.below s2.bl hg; obtain ⟨q110, q111, q112, q113, q114, q115, q116, q117, q118⟩ := HK1.out.below s2.bl hg; obtain ⟨q210, q211, q212, q213, q214, q215, q216, q217, q218⟩ := HK2.out.below s2.bl hg; clear s2))
  go_end0
  exact S5.out.done HW.out HKW.out (by simp [List.append_assoc])
end Go.Proofs.YticbcnhbpbaocaaGreatDoor

namespace Go.Proofs.YticbcnhbpbaocaaGreatDoor
open Go.RowKit T T.Fo
set_option linter.all false
set_option maxRecDepth 100000 in
set_option maxHeartbeats 4000000 in
theorem loop_no {W : World} {B b : Nat} {d : Int} (h : Hd) (h0 : Hd) (k0 : Fo) (h1 : Hd) (k1 : Fo) (t1 : Bs) (P1 : PrnT 99 h1 k1 t1 d B b W) (h9 : (h0.kind == 9) = true) :
    PrnT 134 h (.cons h0 k0 (.cons h1 k1 .nil)) ([102, 111, 114, 32] ++ t1) d B b W := by
  intro A cap hcap hk
  show Prn 134 (nv h A 2 cap) ([102, 111, 114, 32] ++ t1) d B b W
  intro l w hp hb hlen
  obtain ⟨g, o, A0, c0, rfl, hg, h90, hc0, hk0, hl0⟩ := kid1 hk
  obtain ⟨A1, c1, _, h91, hc1, hk1, hl1⟩ := lie1 hl0
  have HW := Lib.hid (hp.below1 (bx h (some ⟨g, o, none⟩) 2 cap))
  have HKW := Lib.hid (Kp.alloc w (bx h (some ⟨g, o, none⟩) 2 cap))
  have S1 := Lib.hid (hp.fresh (bx h (some ⟨g, o, none⟩) 2 cap))
  have HB := Lib.hid (Nb.new w h (some ⟨g, o, none⟩) 2 cap)
  have HK0 := Lib.hid (h90.below (hb.trans HW.out) hg)
  have HK1 := Lib.hid (h91.below (hb.trans HW.out) hg)
  have HP1 := Lib.hid ((P1 A1 c1 hc1 hk1).mono (hb.trans HW.out))
  try simp only [List.length_append, List.length_cons, List.length_nil, len_toList] at hlen
  clear hk hcap hp hb h90 hc0 hk0 hl0 h91 hc1 hk1 hl1 P1
  obtain ⟨q000, q001, q002, q003, q004, q005, q006, q007, q008⟩ := HK0.out
  obtain ⟨q100, q101, q102, q103, q104, q105, q106, q107, q108⟩ := HK1.out
  go_enter Tryz.func134, Tryz.ntmps134
  go_wp2_with (first
    | (go_at_call 99; refine ((S2.out.al (bx h0 A0 k0.len c0)).prn HP1.out (by (try simp only [List.length_append, List.length_cons, List.length_nil, len_toList]); (try show _ ≤ _); omega)).mono ?_; rintro e w3 ⟨rfl, s3⟩; have S3 := Lib.hid s3; obtain ⟨b20, b21, b22, b23, b24, b25, b26, b27, b28⟩ := (HB.out.kp s3.kp).cells; obtain ⟨q020, q021, q022, q023, q024, q025, q026, q027, q028⟩ := HK0.out.below s3.bl hg; obtain ⟨q120, q121, q122, q123, q124, q125, q126, q127, q128⟩ := HK1.out.below s3.bl hg; clear s3)
    | (go_at_call 52; refine (write1 S1.out ⟨#[102, 111, 114, 32]⟩ (by (try simp only [List.length_append, List.length_cons, List.length_nil, len_toList]); (try show _ ≤ _); omega) (by first | rfl | simp)).mono ?_; rintro e w2 ⟨rfl, s2⟩; have S2 := Lib.hid s2; obtain ⟨b10, b11, b12, b13, b14, b15, b16, b17, b18⟩ := (HB.out.kp s2.kp).cells; obtain ⟨q010, q011, q012, q013, q014, q015, q016, q017, q018⟩ := HK0.out.below s2.bl hg; obtain ⟨q110, q111, q112, q113, q114, q115, q116, q117, q118⟩ := HK1.out.below s2.bl hg; obtain ⟨x0, x1, x2, x3, x4, x5, x6, x7, x8⟩ := (HB.out.kp (s2.al (bx h0 A0 k0.len c0)).kp).cells; obtain ⟨y0, y1, y2, y3, y4, y5, y6, y7, y8⟩ := HK1.out.below (s2.al (bx h0 A0 k0.len c0)).bl hg; clear s2))
  go_end0
  exact S3.out.done HW.out HKW.out (by simp [List.append_assoc])
set_option maxRecDepth 100000 in
set_option maxHeartbeats 4000000 in
theorem loop_yes {W : World} {B b : Nat} {d : Int} (h : Hd) (h0 : Hd) (k0 : Fo) (t0 : Bs) (h1 : Hd) (k1 : Fo) (t1 : Bs) (P0 : PrnT 115 h0 k0 t0 d B b W) (P1 : PrnT 99 h1 k1 t1 d B b W) (h9 : (h0.kind == 9) = false) :
    PrnT 134 h (.cons h0 k0 (.cons h1 k1 .nil)) ([102, 111, 114, 32] ++ t0 ++ [32] ++ t1) d B b W := by
  intro A cap hcap hk
  show Prn 134 (nv h A 2 cap) ([102, 111, 114, 32] ++ t0 ++ [32] ++ t1) d B b W
  intro l w hp hb hlen
  obtain ⟨g, o, A0, c0, rfl, hg, h90, hc0, hk0, hl0⟩ := kid1 hk
  obtain ⟨A1, c1, _, h91, hc1, hk1, hl1⟩ := lie1 hl0
  have HW := Lib.hid (hp.below1 (bx h (some ⟨g, o, none⟩) 2 cap))
  have HKW := Lib.hid (Kp.alloc w (bx h (some ⟨g, o, none⟩) 2 cap))
  have S1 := Lib.hid (hp.fresh (bx h (some ⟨g, o, none⟩) 2 cap))
  have HB := Lib.hid (Nb.new w h (some ⟨g, o, none⟩) 2 cap)
  have HK0 := Lib.hid (h90.below (hb.trans HW.out) hg)
  have HP0 := Lib.hid ((P0 A0 c0 hc0 hk0).mono (hb.trans HW.out))
  have HK1 := Lib.hid (h91.below (hb.trans HW.out) hg)
  have HP1 := Lib.hid ((P1 A1 c1 hc1 hk1).mono (hb.trans HW.out))
  try simp only [List.length_append, List.length_cons, List.length_nil, len_toList] at hlen
  clear hk hcap hp hb h90 hc0 hk0 hl0 h91 hc1 hk1 hl1 P0 P1
  obtain ⟨q000, q001, q002, q003, q004, q005, q006, q007, q008⟩ := HK0.out
  obtain ⟨q100, q101, q102, q103, q104, q105, q106, q107, q108⟩ := HK1.out
  go_enter Tryz.func134, Tryz.ntmps134
  go_wp2_with (first
    | (go_at_call 99; refine (S3.out.prn HP1.out (by (try simp only [List.length_append, List.length_cons, List.length_nil, len_toList]); (try show _ ≤ _); omega)).mono ?_; rintro e w4 ⟨rfl, s4⟩; have S4 := Lib.hid s4; obtain ⟨b30, b31, b32, b33, b34, b35, b36, b37, b38⟩ := (HB.out.kp s4.kp).cells; obtain ⟨q030, q031, q032, q033, q034, q035, q036, q037, q038⟩ := HK0.out.below s4.bl hg; obtain ⟨q130, q131, q132, q133, q134, q135, q136, q137, q138⟩ := HK1.out.below s4.bl hg; clear s4)
    | (go_at_call 97; refine (around_any ⟨#[]⟩ ⟨#[32]⟩ (S2.out.al (bx h0 A0 k0.len c0)) HP0.out (by (try simp only [List.length_append, List.length_cons, List.length_nil, len_toList]); (try show _ ≤ _); omega)).mono ?_; rintro e w3 ⟨rfl, s3⟩; have S3 := Lib.hid s3; obtain ⟨b20, b21, b22, b23, b24, b25, b26, b27, b28⟩ := (HB.out.kp s3.kp).cells; obtain ⟨q020, q021, q022, q023, q024, q025, q026, q027, q028⟩ := HK0.out.below s3.bl hg; obtain ⟨q120, q121, q122, q123, q124, q125, q126, q127, q128⟩ := HK1.out.below s3.bl hg; clear s3)
    | (go_at_call 52; refine (write1 S1.out ⟨#[102, 111, 114, 32]⟩ (by (try simp only [List.length_append, List.length_cons, List.length_nil, len_toList]); (try show _ ≤ _); omega) (by first | rfl | simp)).mono ?_; rintro e w2 ⟨rfl, s2⟩; have S2 := Lib.hid s2; obtain ⟨b10, b11, b12, b13, b14, b15, b16, b17, b18⟩ := (HB.out.kp s2.kp).cells; obtain ⟨q010, q011, q012, q013, q014, q015, q016, q017, q018⟩ := HK0.out.below s2.bl hg; obtain ⟨q110, q111, q112, q113, q114, q115, q116, q117, q118⟩ := HK1.out.below s2.bl hg; obtain ⟨x0, x1, x2, x3, x4, x5, x6, x7, x8⟩ := (HB.out.kp (s2.al (bx h0 A0 k0.len c0)).kp).cells; obtain ⟨y0, y1, y2, y3, y4, y5, y6, y7, y8⟩ := HK1.out.below (s2.al (bx h0 A0 k0.len c0)).bl hg; clear s2))
  go_end0
  exact S4.out.done HW.out HKW.out (by simp [List.append_assoc])
end Go.Proofs.YticbcnhbpbaocaaGreatDoor

namespace Go.Proofs.YticbcnhbpbaocaaGreatDoor
open Go.RowKit T T.Fo
set_option linter.all false
set_option maxRecDepth 100000 in
set_option maxHeartbeats 4000000 in
theorem comm_no {W : World} {B b : Nat} {d : Int} (h : Hd) (F : Fo) (h9 : (h.kind == 9) = true) : PrnT 152 h F [100, 101, 102, 97, 117, 108, 116] d B b W := by
  intro A cap hcap hk l w hp hb hlen
  have HW := Lib.hid (hp.below1 (bx h A F.len cap))
  have HKW := Lib.hid (Kp.alloc w (bx h A F.len cap))
  have S1 := Lib.hid (hp.fresh (bx h A F.len cap))
  obtain ⟨m, hme⟩ : ∃ m, F.len = m := ⟨_, rfl⟩
  rw [hme] at HW HKW S1 ⊢
  clear hk hcap hp hb hme
  go_enter Tryz.func152, Tryz.ntmps152
  go_wp2_with (go_at_call 52; refine (write1 S1.out ⟨#[100, 101, 102, 97, 117, 108, 116]⟩ hlen (by simp)).mono ?_; rintro e w2 ⟨rfl, s2⟩; have S2 := Lib.hid s2; clear s2)
  go_end0
  exact S2.out.done HW.out HKW.out rfl
set_option maxRecDepth 100000 in
set_option maxHeartbeats 4000000 in
theorem comm_yes {W : World} {B b : Nat} {d : Int} (h : Hd) (F : Fo) (tx : Bs) (P : PrnT 116 h F tx d B b W) (h9 : (h.kind == 9) = false) : PrnT 152 h F ([99, 97, 115, 101, 32] ++ tx) d B b W := by
  intro A cap hcap hk l w hp hb hlen
  have HW := Lib.hid (hp.below1 (bx h A F.len cap))
  have HKW := Lib.hid (Kp.alloc w (bx h A F.len cap))
  have S1 := Lib.hid (hp.fresh (bx h A F.len cap))
  have HB := Lib.hid (Nb.new w h A F.len cap)
  have HP := Lib.hid ((P A cap hcap hk).mono (hb.trans HW.out))
  obtain ⟨m, hme⟩ : ∃ m, F.len = m := ⟨_, rfl⟩
  rw [hme] at HP HW HKW S1 HB ⊢
  simp only [List.length_append, List.length_cons, List.length_nil] at hlen
  clear hk hcap hp hb hme P
  go_enter Tryz.func152, Tryz.ntmps152
  go_wp2_with (first
    | (go_at_call 116; refine (S2.out.prn HP.out (by simp only [List.length_append]; show _ + 5 + _ ≤ _; omega)).mono ?_; rintro e w3 ⟨rfl, s3⟩; have S3 := Lib.hid s3; clear s3)
    | (go_at_call 52; refine (write1 S1.out ⟨#[99, 97, 115, 101, 32]⟩ (by show _ + 5 ≤ _; omega) (by simp)).mono ?_; rintro e w2 ⟨rfl, s2⟩; have S2 := Lib.hid s2; obtain ⟨b0, b1, b2, b3, b4, b5, b6, b7, b8⟩ := (HB.out.kp s2.kp).cells; clear s2))
  go_end0
  exact S3.out.done HW.out HKW.out (by simp [List.append_assoc])
end Go.Proofs.YticbcnhbpbaocaaGreatDoor
