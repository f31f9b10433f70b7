/-
  The walks of expression, by kinds.
  The walks of expression, by kinds.
  The walks of expression, by kinds.
  The walks of expression, by kinds.
  The walks of expression, by kinds.
-/
import Derived.Test.YticbcnhbpbaocaaGreatDoorQA

set_option linter.all false
namespace Go.Proofs.YticbcnhbpbaocaaGreatDoor
open Go.RowKit T T.Fo
set_option linter.all false

/-- f prints the tree h k as t, wherever it lies below B. -/
def PrnT (f : FuncId) (h : Hd) (k : Fo) (t : Bs) (d : Int) (B b : Nat) (W : World) : Prop := ∀ A c, k.len ≤ c → Kids (Lt B) W A k → Prn f (nv h A k.len c) t d B b W
theorem PrnT.mono {f : FuncId} {h : Hd} {k : Fo} {t : Bs} {d : Int} {B b : Nat} {W W1 : World} (H : PrnT f h k t d B b W) (hb : Below B W W1) (hk : ∀ A, Kids (Lt B) W1 A k → Kids (Lt B) W A k) : PrnT f h k t d B b W1 := fun A c hc h1 => (H A c hc (hk A h1)).mono hb
theorem kid1 {B : Nat} {W : World} {A : Option Addr} {h : Hd} {k r : Fo} (hk : Kids (Lt B) W A (.cons h k r)) : ∃ g o A1 c1, A = some ⟨g, o, none⟩ ∧ g < B ∧ At9 W g o h A1 k.len c1 ∧ k.len ≤ c1 ∧ Kids (Lt B) W A1 k ∧ LiesF (Lt B) W r g (o + 9) := by
  obtain ⟨g, o, rfl, A1, c1, hS, hc, h9, hk1, hr⟩ := hk.cons
  exact ⟨g, o, A1, c1, rfl, hS, h9, hc, hk1, hr⟩
theorem lie1 {B : Nat} {W : World} {g o : Nat} {h : Hd} {k r : Fo} (hk : LiesF (Lt B) W (.cons h k r) g o) : ∃ A1 c1, g < B ∧ At9 W g o h A1 k.len c1 ∧ k.len ≤ c1 ∧ Kids (Lt B) W A1 k ∧ LiesF (Lt B) W r g (o + 9) := by
  obtain ⟨A1, c1, hS, hc, h9, hk1, hr⟩ := hk
  exact ⟨A1, c1, hS, h9, hc, hk1, hr⟩
theorem At9.below {B : Nat} {W W' : World} {g o n cap : Nat} {h : Hd} {A : Option Addr} (H : At9 W g o h A n cap) (hb : Below B W W') (hg : g < B) : At9 W' g o h A n cap := H.carry (hb.block g hg)
theorem len_toList (s : ByteArray) : s.data.toList.length = s.size := rfl
set_option maxRecDepth 100000 in
set_option maxHeartbeats 4000000 in
theorem exp_26 {W : World} {B b : Nat} {d : Int} (t : ByteArray) (n p tk : Int) (tn : ByteArray) (r u : Int) :
    PrnT 115 ⟨26, t, n, p, tk, tn, r, u⟩ .nil ([110, 105, 108]) d B b W := by
  intro A cap hcap hk
  show Prn 115 (nv ⟨26, t, n, p, tk, tn, r, u⟩ A 0 cap) ([110, 105, 108]) d B b W
  intro l w hp hb hlen
  have HW := Lib.hid (hp.below1 (bx ⟨26, t, n, p, tk, tn, r, u⟩ A 0 cap))
  have HKW := Lib.hid (Kp.alloc w (bx ⟨26, t, n, p, tk, tn, r, u⟩ A 0 cap))
  have S1 := Lib.hid (hp.fresh (bx ⟨26, t, n, p, tk, tn, r, u⟩ A 0 cap))
  have HB := Lib.hid (Nb.new w ⟨26, t, n, p, tk, tn, r, u⟩ A 0 cap)
  simp only [List.length_append, List.length_cons, List.length_nil, len_toList] at hlen
  clear hk hcap hp hb  
  go_enter Tryz.func115, Tryz.ntmps115
  go_wp2_with (first
    | (go_at_call 52; refine (write1 S1.out ⟨#[110, 105, 108]⟩ (by (try simp only [List.length_append, List.length_cons, List.length_nil, len_toList]); omega) (by first | rfl | simp)).mono ?_; rintro e w2 ⟨rfl, s2⟩; have S2 := Lib.hid s2; clear s2))
  go_end0
  exact S2.out.done HW.out HKW.out (by simp [List.append_assoc])
set_option maxRecDepth 100000 in
set_option maxHeartbeats 4000000 in
theorem exp_27 {W : World} {B b : Nat} {d : Int} (t : ByteArray) (n p tk : Int) (tn : ByteArray) (r u : Int) :
    PrnT 115 ⟨27, t, n, p, tk, tn, r, u⟩ .nil (t.data.toList) d B b W := by
  intro A cap hcap hk
  show Prn 115 (nv ⟨27, t, n, p, tk, tn, r, u⟩ A 0 cap) (t.data.toList) d B b W
  intro l w hp hb hlen
  have HW := Lib.hid (hp.below1 (bx ⟨27, t, n, p, tk, tn, r, u⟩ A 0 cap))
  have HKW := Lib.hid (Kp.alloc w (bx ⟨27, t, n, p, tk, tn, r, u⟩ A 0 cap))
  have S1 := Lib.hid (hp.fresh (bx ⟨27, t, n, p, tk, tn, r, u⟩ A 0 cap))
  have HB := Lib.hid (Nb.new w ⟨27, t, n, p, tk, tn, r, u⟩ A 0 cap)
  simp only [List.length_append, List.length_cons, List.length_nil, len_toList] at hlen
  clear hk hcap hp hb  
  go_enter Tryz.func115, Tryz.ntmps115
  go_wp2_with (first
    | (go_at_call 52; refine (write1 S1.out t (by (try simp only [List.length_append, List.length_cons, List.length_nil, len_toList]); omega) (by first | rfl | simp)).mono ?_; rintro e w2 ⟨rfl, s2⟩; have S2 := Lib.hid s2; clear s2))
  go_end0
  exact S2.out.done HW.out HKW.out (by simp [List.append_assoc])
set_option maxRecDepth 100000 in
set_option maxHeartbeats 4000000 in
theorem exp_34 {W : World} {B b : Nat} {d : Int} (t : ByteArray) (n p tk : Int) (tn : ByteArray) (r u : Int) :
    PrnT 115 ⟨34, t, n, p, tk, tn, r, u⟩ .nil ([110, 101, 119, 40] ++ t.data.toList ++ [41]) d B b W := by
  intro A cap hcap hk
  show Prn 115 (nv ⟨34, t, n, p, tk, tn, r, u⟩ A 0 cap) ([110, 101, 119, 40] ++ t.data.toList ++ [41]) d B b W
  intro l w hp hb hlen
  have HW := Lib.hid (hp.below1 (bx ⟨34, t, n, p, tk, tn, r, u⟩ A 0 cap))
  have HKW := Lib.hid (Kp.alloc w (bx ⟨34, t, n, p, tk, tn, r, u⟩ A 0 cap))
  have S1 := Lib.hid (hp.fresh (bx ⟨34, t, n, p, tk, tn, r, u⟩ A 0 cap))
  have HB := Lib.hid (Nb.new w ⟨34, t, n, p, tk, tn, r, u⟩ A 0 cap)
  simp only [List.length_append, List.length_cons, List.length_nil, len_toList] at hlen
  clear hk hcap hp hb  
  go_enter Tryz.func115, Tryz.ntmps115
  go_wp2_with (first
    | (go_at_call 52; refine (write3 S1.out ⟨#[110, 101, 119, 40]⟩ t ⟨#[41]⟩ (by (try simp only [List.length_append, List.length_cons, List.length_nil, len_toList]); omega) (by first | rfl | simp)).mono ?_; rintro e w2 ⟨rfl, s2⟩; have S2 := Lib.hid s2; clear s2))
  go_end0
  exact S2.out.done HW.out HKW.out (by simp [List.append_assoc])
set_option maxRecDepth 100000 in
set_option maxHeartbeats 4000000 in
theorem exp_28 {W : World} {B b : Nat} {d : Int} (t : ByteArray) (n p tk : Int) (tn : ByteArray) (r u : Int) (h0 : Hd) (k0 : Fo) (t0 : Bs) (P0 : PrnT 115 h0 k0 t0 d B b W) :
    PrnT 115 ⟨28, t, n, p, tk, tn, r, u⟩ (.cons h0 k0 .nil) (par (h0.kind == 32 || h0.kind == 31 || h0.kind == 33) t0 ++ [46] ++ t.data.toList) d B b W := by
  intro A cap hcap hk
  show Prn 115 (nv ⟨28, t, n, p, tk, tn, r, u⟩ A 1 cap) (par (h0.kind == 32 || h0.kind == 31 || h0.kind == 33) t0 ++ [46] ++ t.data.toList) d B b W
  intro l w hp hb hlen
  obtain ⟨g, o, A0, c0, rfl, hg, h90, hc0, hk0, hl0⟩ := kid1 hk
  have HW := Lib.hid (hp.below1 (bx ⟨28, t, n, p, tk, tn, r, u⟩ (some ⟨g, o, none⟩) 1 cap))
  have HKW := Lib.hid (Kp.alloc w (bx ⟨28, t, n, p, tk, tn, r, u⟩ (some ⟨g, o, none⟩) 1 cap))
  have S1 := Lib.hid (hp.fresh (bx ⟨28, t, n, p, tk, tn, r, u⟩ (some ⟨g, o, none⟩) 1 cap))
  have HB := Lib.hid (Nb.new w ⟨28, t, n, p, tk, tn, r, u⟩ (some ⟨g, o, none⟩) 1 cap)
  have HK0 := Lib.hid (h90.below (hb.trans HW.out) hg)
  have HP0 := Lib.hid ((primary_any (P0 A0 c0 hc0 hk0)).mono (hb.trans HW.out))
  simp only [List.length_append, List.length_cons, List.length_nil, len_toList] at hlen
  clear hk hcap hp hb h90 hc0 hk0 hl0 P0
  obtain ⟨q000, q001, q002, q003, q004, q005, q006, q007, q008⟩ := HK0.out
  go_enter Tryz.func115, Tryz.ntmps115
  go_wp2_with (first
    | (go_at_call 52; refine (write2 S2.out ⟨#[46]⟩ t (by (try simp only [List.length_append, List.length_cons, List.length_nil, len_toList]); omega) (by first | rfl | simp)).mono ?_; rintro e w3 ⟨rfl, s3⟩; have S3 := Lib.hid s3; clear s3)
    | (go_at_call 128; refine (S1.out.prn HP0.out (by (try simp only [List.length_append, List.length_cons, List.length_nil, len_toList]); omega)).mono ?_; rintro e w2 ⟨rfl, s2⟩; have S2 := Lib.hid s2; obtain ⟨b10, b11, b12, b13, b14, b15, b16, b17, b18⟩ := (HB.out.kp s2.kp).cells; obtain ⟨q010, q011, q012, q013, q014, q015, q016, q017, q018⟩ := HK0.out.below s2.bl hg; clear s2))
  go_end0
  exact S3.out.done HW.out HKW.out (by simp [List.append_assoc])
end Go.Proofs.YticbcnhbpbaocaaGreatDoor

namespace Go.Proofs.YticbcnhbpbaocaaGreatDoor
open Go.RowKit T T.Fo
set_option linter.all false
set_option maxRecDepth 100000 in
set_option maxHeartbeats 4000000 in
theorem exp_29 {W : World} {B b : Nat} {d : Int} (t : ByteArray) (n p tk : Int) (tn : ByteArray) (r u : Int) (h0 : Hd) (k0 : Fo) (t0 : Bs) (h1 : Hd) (k1 : Fo) (t1 : Bs) (P0 : PrnT 115 h0 k0 t0 d B b W) (P1 : PrnT 115 h1 k1 t1 d B b W) :
    PrnT 115 ⟨29, t, n, p, tk, tn, r, u⟩ (.cons h0 k0 (.cons h1 k1 .nil)) (par (h0.kind == 32 || h0.kind == 31 || h0.kind == 33) t0 ++ [91] ++ t1 ++ [93]) d B b W := by
  intro A cap hcap hk
  show Prn 115 (nv ⟨29, t, n, p, tk, tn, r, u⟩ A 2 cap) (par (h0.kind == 32 || h0.kind == 31 || h0.kind == 33) t0 ++ [91] ++ t1 ++ [93]) d B b W
  intro l w hp hb hlen
  obtain ⟨g, o, A0, c0, rfl, hg, h90, hc0, hk0, hl0⟩ := kid1 hk
  obtain ⟨A1, c1, _, h91, hc1, hk1, hl1⟩ := lie1 hl0
  have HW := Lib.hid (hp.below1 (bx ⟨29, t, n, p, tk, tn, r, u⟩ (some ⟨g, o, none⟩) 2 cap))
  have HKW := Lib.hid (Kp.alloc w (bx ⟨29, t, n, p, tk, tn, r, u⟩ (some ⟨g, o, none⟩) 2 cap))
  have S1 := Lib.hid (hp.fresh (bx ⟨29, t, n, p, tk, tn, r, u⟩ (some ⟨g, o, none⟩) 2 cap))
  have HB := Lib.hid (Nb.new w ⟨29, t, n, p, tk, tn, r, u⟩ (some ⟨g, o, none⟩) 2 cap)
  have HK0 := Lib.hid (h90.below (hb.trans HW.out) hg)
  have HP0 := Lib.hid ((primary_any (P0 A0 c0 hc0 hk0)).mono (hb.trans HW.out))
  have HK1 := Lib.hid (h91.below (hb.trans HW.out) hg)
  have HP1 := Lib.hid ((P1 A1 c1 hc1 hk1).mono (hb.trans HW.out))
  simp only [List.length_append, List.length_cons, List.length_nil, len_toList] at hlen
  clear hk hcap hp hb h90 hc0 hk0 hl0 h91 hc1 hk1 hl1 P0 P1
  obtain ⟨q000, q001, q002, q003, q004, q005, q006, q007, q008⟩ := HK0.out
  obtain ⟨q100, q101, q102, q103, q104, q105, q106, q107, q108⟩ := HK1.out
  go_enter Tryz.func115, Tryz.ntmps115
  go_wp2_with (first
    | (go_at_call 97; refine (around_any ⟨#[91]⟩ ⟨#[93]⟩ S2.out HP1.out (by (try simp only [List.length_append, List.length_cons, List.length_nil, len_toList]); omega)).mono ?_; rintro e w3 ⟨rfl, s3⟩; have S3 := Lib.hid s3; clear s3)
    | (go_at_call 128; refine (S1.out.prn HP0.out (by (try simp only [List.length_append, List.length_cons, List.length_nil, len_toList]); omega)).mono ?_; rintro e w2 ⟨rfl, s2⟩; have S2 := Lib.hid s2; obtain ⟨b10, b11, b12, b13, b14, b15, b16, b17, b18⟩ := (HB.out.kp s2.kp).cells; obtain ⟨q010, q011, q012, q013, q014, q015, q016, q017, q018⟩ := HK0.out.below s2.bl hg; obtain ⟨q110, q111, q112, q113, q114, q115, q116, q117, q118⟩ := HK1.out.below s2.bl hg; clear s2))
  go_end0
  exact S3.out.done HW.out HKW.out (by simp [List.append_assoc])
set_option maxRecDepth 100000 in
set_option maxHeartbeats 4000000 in
theorem exp_31 {W : World} {B b : Nat} {d : Int} (t : ByteArray) (n p tk : Int) (tn : ByteArray) (r u : Int) (h0 : Hd) (k0 : Fo) (t0 : Bs) (P0 : PrnT 115 h0 k0 t0 d B b W) :
    PrnT 115 ⟨31, t, n, p, tk, tn, r, u⟩ (.cons h0 k0 .nil) (t.data.toList ++ par (h0.kind == 32) t0) d B b W := by
  intro A cap hcap hk
  show Prn 115 (nv ⟨31, t, n, p, tk, tn, r, u⟩ A 1 cap) (t.data.toList ++ par (h0.kind == 32) t0) d B b W
  intro l w hp hb hlen
  obtain ⟨g, o, A0, c0, rfl, hg, h90, hc0, hk0, hl0⟩ := kid1 hk
  have HW := Lib.hid (hp.below1 (bx ⟨31, t, n, p, tk, tn, r, u⟩ (some ⟨g, o, none⟩) 1 cap))
  have HKW := Lib.hid (Kp.alloc w (bx ⟨31, t, n, p, tk, tn, r, u⟩ (some ⟨g, o, none⟩) 1 cap))
  have S1 := Lib.hid (hp.fresh (bx ⟨31, t, n, p, tk, tn, r, u⟩ (some ⟨g, o, none⟩) 1 cap))
  have HB := Lib.hid (Nb.new w ⟨31, t, n, p, tk, tn, r, u⟩ (some ⟨g, o, none⟩) 1 cap)
  have HK0 := Lib.hid (h90.below (hb.trans HW.out) hg)
  have HP0 := Lib.hid ((operand_any (P0 A0 c0 hc0 hk0)).mono (hb.trans HW.out))
  simp only [List.length_append, List.length_cons, List.length_nil, len_toList] at hlen
  clear hk hcap hp hb h90 hc0 hk0 hl0 P0
  obtain ⟨q000, q001, q002, q003, q004, q005, q006, q007, q008⟩ := HK0.out
  go_enter Tryz.func115, Tryz.ntmps115
  go_wp2_with (first
    | (go_at_call 129; refine (S2.out.prn HP0.out (by (try simp only [List.length_append, List.length_cons, List.length_nil, len_toList]); omega)).mono ?_; rintro e w3 ⟨rfl, s3⟩; have S3 := Lib.hid s3; clear s3)
    | (go_at_call 52; refine (write1 S1.out t (by (try simp only [List.length_append, List.length_cons, List.length_nil, len_toList]); omega) (by first | rfl | simp)).mono ?_; rintro e w2 ⟨rfl, s2⟩; have S2 := Lib.hid s2; obtain ⟨b10, b11, b12, b13, b14, b15, b16, b17, b18⟩ := (HB.out.kp s2.kp).cells; obtain ⟨q010, q011, q012, q013, q014, q015, q016, q017, q018⟩ := HK0.out.below s2.bl hg; clear s2))
  go_end0
  exact S3.out.done HW.out HKW.out (by simp [List.append_assoc])
end Go.Proofs.YticbcnhbpbaocaaGreatDoor

namespace Go.Proofs.YticbcnhbpbaocaaGreatDoor
open Go.RowKit T T.Fo
set_option linter.all false
set_option maxRecDepth 100000 in
set_option maxHeartbeats 4000000 in
theorem exp_33 {W : World} {B b : Nat} {d : Int} (t : ByteArray) (n p tk : Int) (tn : ByteArray) (r u : Int) (h0 : Hd) (k0 : Fo) (t0 : Bs) (P0 : PrnT 115 h0 k0 t0 d B b W) :
    PrnT 115 ⟨33, t, n, p, tk, tn, r, u⟩ (.cons h0 k0 .nil) ([60, 45] ++ par (h0.kind == 32) t0) d B b W := by
  intro A cap hcap hk
  show Prn 115 (nv ⟨33, t, n, p, tk, tn, r, u⟩ A 1 cap) ([60, 45] ++ par (h0.kind == 32) t0) d B b W
  intro l w hp hb hlen
  obtain ⟨g, o, A0, c0, rfl, hg, h90, hc0, hk0, hl0⟩ := kid1 hk
  have HW := Lib.hid (hp.below1 (bx ⟨33, t, n, p, tk, tn, r, u⟩ (some ⟨g, o, none⟩) 1 cap))
  have HKW := Lib.hid (Kp.alloc w (bx ⟨33, t, n, p, tk, tn, r, u⟩ (some ⟨g, o, none⟩) 1 cap))
  have S1 := Lib.hid (hp.fresh (bx ⟨33, t, n, p, tk, tn, r, u⟩ (some ⟨g, o, none⟩) 1 cap))
  have HB := Lib.hid (Nb.new w ⟨33, t, n, p, tk, tn, r, u⟩ (some ⟨g, o, none⟩) 1 cap)
  have HK0 := Lib.hid (h90.below (hb.trans HW.out) hg)
  have HP0 := Lib.hid ((operand_any (P0 A0 c0 hc0 hk0)).mono (hb.trans HW.out))
  simp only [List.length_append, List.length_cons, List.length_nil, len_toList] at hlen
  clear hk hcap hp hb h90 hc0 hk0 hl0 P0
  obtain ⟨q000, q001, q002, q003, q004, q005, q006, q007, q008⟩ := HK0.out
  go_enter Tryz.func115, Tryz.ntmps115
  go_wp2_with (first
    | (go_at_call 129; refine (S2.out.prn HP0.out (by (try simp only [List.length_append, List.length_cons, List.length_nil, len_toList]); omega)).mono ?_; rintro e w3 ⟨rfl, s3⟩; have S3 := Lib.hid s3; clear s3)
    | (go_at_call 52; refine (write1 S1.out ⟨#[60, 45]⟩ (by (try simp only [List.length_append, List.length_cons, List.length_nil, len_toList]); omega) (by first | rfl | simp)).mono ?_; rintro e w2 ⟨rfl, s2⟩; have S2 := Lib.hid s2; obtain ⟨b10, b11, b12, b13, b14, b15, b16, b17, b18⟩ := (HB.out.kp s2.kp).cells; obtain ⟨q010, q011, q012, q013, q014, q015, q016, q017, q018⟩ := HK0.out.below s2.bl hg; clear s2))
  go_end0
  exact S3.out.done HW.out HKW.out (by simp [List.append_assoc])
set_option maxRecDepth 100000 in
set_option maxHeartbeats 4000000 in
theorem exp_32 {W : World} {B b : Nat} {d : Int} (t : ByteArray) (n p tk : Int) (tn : ByteArray) (r u : Int) (h0 : Hd) (k0 : Fo) (t0 : Bs) (h1 : Hd) (k1 : Fo) (t1 : Bs) (P0 : PrnT 115 h0 k0 t0 d B b W) (P1 : PrnT 115 h1 k1 t1 d B b W) :
    PrnT 115 ⟨32, t, n, p, tk, tn, r, u⟩ (.cons h0 k0 (.cons h1 k1 .nil)) (par (h0.kind == 32) t0 ++ [32] ++ t.data.toList ++ [32] ++ par (h1.kind == 32) t1) d B b W := by
  intro A cap hcap hk
  show Prn 115 (nv ⟨32, t, n, p, tk, tn, r, u⟩ A 2 cap) (par (h0.kind == 32) t0 ++ [32] ++ t.data.toList ++ [32] ++ par (h1.kind == 32) t1) d B b W
  intro l w hp hb hlen
  obtain ⟨g, o, A0, c0, rfl, hg, h90, hc0, hk0, hl0⟩ := kid1 hk
  obtain ⟨A1, c1, _, h91, hc1, hk1, hl1⟩ := lie1 hl0
  have HW := Lib.hid (hp.below1 (bx ⟨32, t, n, p, tk, tn, r, u⟩ (some ⟨g, o, none⟩) 2 cap))
  have HKW := Lib.hid (Kp.alloc w (bx ⟨32, t, n, p, tk, tn, r, u⟩ (some ⟨g, o, none⟩) 2 cap))
  have S1 := Lib.hid (hp.fresh (bx ⟨32, t, n, p, tk, tn, r, u⟩ (some ⟨g, o, none⟩) 2 cap))
  have HB := Lib.hid (Nb.new w ⟨32, t, n, p, tk, tn, r, u⟩ (some ⟨g, o, none⟩) 2 cap)
  have HK0 := Lib.hid (h90.below (hb.trans HW.out) hg)
  have HP0 := Lib.hid ((operand_any (P0 A0 c0 hc0 hk0)).mono (hb.trans HW.out))
  have HK1 := Lib.hid (h91.below (hb.trans HW.out) hg)
  have HP1 := Lib.hid ((operand_any (P1 A1 c1 hc1 hk1)).mono (hb.trans HW.out))
  simp only [List.length_append, List.length_cons, List.length_nil, len_toList] at hlen
  clear hk hcap hp hb h90 hc0 hk0 hl0 h91 hc1 hk1 hl1 P0 P1
  obtain ⟨q000, q001, q002, q003, q004, q005, q006, q007, q008⟩ := HK0.out
  obtain ⟨q100, q101, q102, q103, q104, q105, q106, q107, q108⟩ := HK1.out
  go_enter Tryz.func115, Tryz.ntmps115
  go_wp2_with (first
    | (go_at_call 129; refine (S3.out.prn HP1.out (by (try simp only [List.length_append, List.length_cons, List.length_nil, len_toList]); omega)).mono ?_; rintro e w4 ⟨rfl, s4⟩; have S4 := Lib.hid s4; clear s4)
    | (go_at_call 52; refine (write3 S2.out ⟨#[32]⟩ t ⟨#[32]⟩ (by (try simp only [List.length_append, List.length_cons, List.length_nil, len_toList]); omega) (by first | rfl | simp)).mono ?_; rintro e w3 ⟨rfl, s3⟩; have S3 := Lib.hid s3; obtain ⟨b20, b21, b22, b23, b24, b25, b26, b27, b28⟩ := (HB.out.kp s3.kp).cells; obtain ⟨q020, q021, q022, q023, q024, q025, q026, q027, q028⟩ := HK0.out.below s3.bl hg; obtain ⟨q120, q121, q122, q123, q124, q125, q126, q127, q128⟩ := HK1.out.below s3.bl hg; clear s3)
    | (go_at_call 129; refine (S1.out.prn HP0.out (by (try simp only [List.length_append, List.length_cons, List.length_nil, len_toList]); omega)).mono ?_; rintro e w2 ⟨rfl, s2⟩; have S2 := Lib.hid s2; obtain ⟨b10, b11, b12, b13, b14, b15, b16, b17, b18⟩ := (HB.out.kp s2.kp).cells; obtain ⟨q010, q011, q012, q013, q014, q015, q016, q017, q018⟩ := HK0.out.below s2.bl hg; obtain ⟨q110, q111, q112, q113, q114, q115, q116, q117, q118⟩ := HK1.out.below s2.bl hg; clear s2))
  go_end0
  exact S4.out.done HW.out HKW.out (by simp [List.append_assoc])
end Go.Proofs.YticbcnhbpbaocaaGreatDoor

namespace Go.Proofs.YticbcnhbpbaocaaGreatDoor
open Go.RowKit T T.Fo
set_option linter.all false
set_option maxRecDepth 100000 in
set_option maxHeartbeats 4000000 in
theorem exp_35 {W : World} {B b : Nat} {d : Int} (t : ByteArray) (n p tk : Int) (tn : ByteArray) (r u : Int) (h0 : Hd) (k0 : Fo) (t0 : Bs) (P0 : PrnT 115 h0 k0 t0 d B b W) :
    PrnT 115 ⟨35, t, n, p, tk, tn, r, u⟩ (.cons h0 k0 .nil) ([109, 97, 107, 101, 40, 91, 93, 105, 110, 116, 44, 32] ++ t0 ++ [41]) d B b W := by
  intro A cap hcap hk
  show Prn 115 (nv ⟨35, t, n, p, tk, tn, r, u⟩ A 1 cap) ([109, 97, 107, 101, 40, 91, 93, 105, 110, 116, 44, 32] ++ t0 ++ [41]) d B b W
  intro l w hp hb hlen
  obtain ⟨g, o, A0, c0, rfl, hg, h90, hc0, hk0, hl0⟩ := kid1 hk
  have HW := Lib.hid (hp.below1 (bx ⟨35, t, n, p, tk, tn, r, u⟩ (some ⟨g, o, none⟩) 1 cap))
  have HKW := Lib.hid (Kp.alloc w (bx ⟨35, t, n, p, tk, tn, r, u⟩ (some ⟨g, o, none⟩) 1 cap))
  have S1 := Lib.hid (hp.fresh (bx ⟨35, t, n, p, tk, tn, r, u⟩ (some ⟨g, o, none⟩) 1 cap))
  have HB := Lib.hid (Nb.new w ⟨35, t, n, p, tk, tn, r, u⟩ (some ⟨g, o, none⟩) 1 cap)
  have HK0 := Lib.hid (h90.below (hb.trans HW.out) hg)
  have HP0 := Lib.hid ((P0 A0 c0 hc0 hk0).mono (hb.trans HW.out))
  simp only [List.length_append, List.length_cons, List.length_nil, len_toList] at hlen
  clear hk hcap hp hb h90 hc0 hk0 hl0 P0
  obtain ⟨q000, q001, q002, q003, q004, q005, q006, q007, q008⟩ := HK0.out
  go_enter Tryz.func115, Tryz.ntmps115
  go_wp2_with (first
    | (go_at_call 97; refine (around_any ⟨#[109, 97, 107, 101, 40, 91, 93, 105, 110, 116, 44, 32]⟩ ⟨#[41]⟩ S1.out HP0.out (by (try simp only [List.length_append, List.length_cons, List.length_nil, len_toList]); omega)).mono ?_; rintro e w2 ⟨rfl, s2⟩; have S2 := Lib.hid s2; clear s2))
  go_end0
  exact S2.out.done HW.out HKW.out (by simp [List.append_assoc])
set_option maxRecDepth 100000 in
set_option maxHeartbeats 4000000 in
theorem exp_36 {W : World} {B b : Nat} {d : Int} (t : ByteArray) (n p tk : Int) (tn : ByteArray) (r u : Int) (h0 : Hd) (k0 : Fo) (t0 : Bs) (P0 : PrnT 115 h0 k0 t0 d B b W) :
    PrnT 115 ⟨36, t, n, p, tk, tn, r, u⟩ (.cons h0 k0 .nil) ([109, 97, 107, 101, 40, 99, 104, 97, 110, 32, 105, 110, 116, 44, 32] ++ t0 ++ [41]) d B b W := by
  intro A cap hcap hk
  show Prn 115 (nv ⟨36, t, n, p, tk, tn, r, u⟩ A 1 cap) ([109, 97, 107, 101, 40, 99, 104, 97, 110, 32, 105, 110, 116, 44, 32] ++ t0 ++ [41]) d B b W
  intro l w hp hb hlen
  obtain ⟨g, o, A0, c0, rfl, hg, h90, hc0, hk0, hl0⟩ := kid1 hk
  have HW := Lib.hid (hp.below1 (bx ⟨36, t, n, p, tk, tn, r, u⟩ (some ⟨g, o, none⟩) 1 cap))
  have HKW := Lib.hid (Kp.alloc w (bx ⟨36, t, n, p, tk, tn, r, u⟩ (some ⟨g, o, none⟩) 1 cap))
  have S1 := Lib.hid (hp.fresh (bx ⟨36, t, n, p, tk, tn, r, u⟩ (some ⟨g, o, none⟩) 1 cap))
  have HB := Lib.hid (Nb.new w ⟨36, t, n, p, tk, tn, r, u⟩ (some ⟨g, o, none⟩) 1 cap)
  have HK0 := Lib.hid (h90.below (hb.trans HW.out) hg)
  have HP0 := Lib.hid ((P0 A0 c0 hc0 hk0).mono (hb.trans HW.out))
  simp only [List.length_append, List.length_cons, List.length_nil, len_toList] at hlen
  clear hk hcap hp hb h90 hc0 hk0 hl0 P0
  obtain ⟨q000, q001, q002, q003, q004, q005, q006, q007, q008⟩ := HK0.out
  go_enter Tryz.func115, Tryz.ntmps115
  go_wp2_with (first
    | (go_at_call 97; refine (around_any ⟨#[109, 97, 107, 101, 40, 99, 104, 97, 110, 32, 105, 110, 116, 44, 32]⟩ ⟨#[41]⟩ S1.out HP0.out (by (try simp only [List.length_append, List.length_cons, List.length_nil, len_toList]); omega)).mono ?_; rintro e w2 ⟨rfl, s2⟩; have S2 := Lib.hid s2; clear s2))
  go_end0
  exact S2.out.done HW.out HKW.out (by simp [List.append_assoc])
end Go.Proofs.YticbcnhbpbaocaaGreatDoor

namespace Go.Proofs.YticbcnhbpbaocaaGreatDoor
open Go.RowKit T T.Fo
set_option linter.all false
set_option maxRecDepth 100000 in
set_option maxHeartbeats 4000000 in
theorem exp_37 {W : World} {B b : Nat} {d : Int} (t : ByteArray) (n p tk : Int) (tn : ByteArray) (r u : Int) (h0 : Hd) (k0 : Fo) (t0 : Bs) (P0 : PrnT 115 h0 k0 t0 d B b W) :
    PrnT 115 ⟨37, t, n, p, tk, tn, r, u⟩ (.cons h0 k0 .nil) ([108, 101, 110, 40] ++ t0 ++ [41]) d B b W := by
  intro A cap hcap hk
  show Prn 115 (nv ⟨37, t, n, p, tk, tn, r, u⟩ A 1 cap) ([108, 101, 110, 40] ++ t0 ++ [41]) d B b W
  intro l w hp hb hlen
  obtain ⟨g, o, A0, c0, rfl, hg, h90, hc0, hk0, hl0⟩ := kid1 hk
  have HW := Lib.hid (hp.below1 (bx ⟨37, t, n, p, tk, tn, r, u⟩ (some ⟨g, o, none⟩) 1 cap))
  have HKW := Lib.hid (Kp.alloc w (bx ⟨37, t, n, p, tk, tn, r, u⟩ (some ⟨g, o, none⟩) 1 cap))
  have S1 := Lib.hid (hp.fresh (bx ⟨37, t, n, p, tk, tn, r, u⟩ (some ⟨g, o, none⟩) 1 cap))
  have HB := Lib.hid (Nb.new w ⟨37, t, n, p, tk, tn, r, u⟩ (some ⟨g, o, none⟩) 1 cap)
  have HK0 := Lib.hid (h90.below (hb.trans HW.out) hg)
  have HP0 := Lib.hid ((P0 A0 c0 hc0 hk0).mono (hb.trans HW.out))
  simp only [List.length_append, List.length_cons, List.length_nil, len_toList] at hlen
  clear hk hcap hp hb h90 hc0 hk0 hl0 P0
  obtain ⟨q000, q001, q002, q003, q004, q005, q006, q007, q008⟩ := HK0.out
  go_enter Tryz.func115, Tryz.ntmps115
  go_wp2_with (first
    | (go_at_call 97; refine (around_any ⟨#[108, 101, 110, 40]⟩ ⟨#[41]⟩ S1.out HP0.out (by (try simp only [List.length_append, List.length_cons, List.length_nil, len_toList]); omega)).mono ?_; rintro e w2 ⟨rfl, s2⟩; have S2 := Lib.hid s2; clear s2))
  go_end0
  exact S2.out.done HW.out HKW.out (by simp [List.append_assoc])
set_option maxRecDepth 100000 in
set_option maxHeartbeats 4000000 in
theorem exp_38 {W : World} {B b : Nat} {d : Int} (t : ByteArray) (n p tk : Int) (tn : ByteArray) (r u : Int) (h0 : Hd) (k0 : Fo) (t0 : Bs) (P0 : PrnT 99 h0 k0 t0 d B b W) :
    PrnT 115 ⟨38, t, n, p, tk, tn, r, u⟩ (.cons h0 k0 .nil) ([102, 117, 110, 99, 40, 41, 32] ++ t0) d B b W := by
  intro A cap hcap hk
  show Prn 115 (nv ⟨38, t, n, p, tk, tn, r, u⟩ A 1 cap) ([102, 117, 110, 99, 40, 41, 32] ++ t0) d B b W
  intro l w hp hb hlen
  obtain ⟨g, o, A0, c0, rfl, hg, h90, hc0, hk0, hl0⟩ := kid1 hk
  have HW := Lib.hid (hp.below1 (bx ⟨38, t, n, p, tk, tn, r, u⟩ (some ⟨g, o, none⟩) 1 cap))
  have HKW := Lib.hid (Kp.alloc w (bx ⟨38, t, n, p, tk, tn, r, u⟩ (some ⟨g, o, none⟩) 1 cap))
  have S1 := Lib.hid (hp.fresh (bx ⟨38, t, n, p, tk, tn, r, u⟩ (some ⟨g, o, none⟩) 1 cap))
  have HB := Lib.hid (Nb.new w ⟨38, t, n, p, tk, tn, r, u⟩ (some ⟨g, o, none⟩) 1 cap)
  have HK0 := Lib.hid (h90.below (hb.trans HW.out) hg)
  have HP0 := Lib.hid ((P0 A0 c0 hc0 hk0).mono (hb.trans HW.out))
  simp only [List.length_append, List.length_cons, List.length_nil, len_toList] at hlen
  clear hk hcap hp hb h90 hc0 hk0 hl0 P0
  obtain ⟨q000, q001, q002, q003, q004, q005, q006, q007, q008⟩ := HK0.out
  go_enter Tryz.func115, Tryz.ntmps115
  go_wp2_with (first
    | (go_at_call 99; refine (S2.out.prn HP0.out (by (try simp only [List.length_append, List.length_cons, List.length_nil, len_toList]); omega)).mono ?_; rintro e w3 ⟨rfl, s3⟩; have S3 := Lib.hid s3; clear s3)
    | (go_at_call 52; refine (write1 S1.out ⟨#[102, 117, 110, 99, 40, 41, 32]⟩ (by (try simp only [List.length_append, List.length_cons, List.length_nil, len_toList]); omega) (by first | rfl | simp)).mono ?_; rintro e w2 ⟨rfl, s2⟩; have S2 := Lib.hid s2; obtain ⟨b10, b11, b12, b13, b14, b15, b16, b17, b18⟩ := (HB.out.kp s2.kp).cells; obtain ⟨q010, q011, q012, q013, q014, q015, q016, q017, q018⟩ := HK0.out.below s2.bl hg; clear s2))
  go_end0
  exact S3.out.done HW.out HKW.out (by simp [List.append_assoc])
end Go.Proofs.YticbcnhbpbaocaaGreatDoor
