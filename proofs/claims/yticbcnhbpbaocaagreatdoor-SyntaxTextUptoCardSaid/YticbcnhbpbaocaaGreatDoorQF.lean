/-
  The walks of expression: integers, truth values, calls; of result.
  The walks of expression: integers, truth values, calls; of result.
  The walk of result.
  The walk of choice.
-/
import Derived.Test.YticbcnhbpbaocaaGreatDoorQC

set_option linter.all false
namespace Go.Proofs.YticbcnhbpbaocaaGreatDoor
open Go.RowKit T T.Fo
set_option linter.all false

theorem digs_eq (n : Nat) : digs n = Lib.decDigits n := by
  induction n using Nat.strongRecOn with
  | _ n ih =>
    rw [digs, Lib.decDigits]
    by_cases h : n < 10
    · rw [if_pos h, dif_pos h]
    · rw [if_neg h, dif_neg h, ih (n / 10) (by omega)]
theorem itoa_at {n : Int} (h0 : 0 ≤ n) (h1 : n ≤ 9223372036854775807) {w1 W : World} {B b : Nat} {l : Bs} {d : Int} (H : Sn w1 B b l d W) (s : ByteArray) (hs : s = ⟨(digs n.toNat).toArray⟩) :
    Calls Tryz.prog 130 #[.int .i64 n] W fun e w' => e = .returned (.string s) ∧ Sn w1 B b l d w' := by
  refine (Tryz.strconv_Itoa n (by omega) h1 W H.pz.tb).mono ?_
  rintro e w' ⟨rfl, k, os, rfl⟩
  refine ⟨?_, H.keep (Lib.below_grow _ _ (Nat.le_refl _) _ _)⟩
  rw [hs, digs_eq]
  obtain ⟨u, rfl⟩ : ∃ u : Nat, n = (u : Int) := ⟨n.toNat, by omega⟩
  rw [Lib.itoa_nonneg]
  simp
theorem fmtBool_at (c : Bool) {w1 W : World} {B b : Nat} {l : Bs} {d : Int} (H : Sn w1 B b l d W) (s : ByteArray) (hs : s = if c then ⟨#[116, 114, 117, 101]⟩ else ⟨#[102, 97, 108, 115, 101]⟩) :
    Calls Tryz.prog 131 #[.bool c] W fun e w' => e = .returned (.string s) ∧ Sn w1 B b l d w' := by
  refine (Tryz.strconv_FormatBool c W).mono ?_
  rintro e w' ⟨rfl, rfl⟩
  refine ⟨?_, H⟩
  rw [hs]
  cases c <;> rfl
set_option maxRecDepth 100000 in
set_option maxHeartbeats 4000000 in
theorem exp_24 {W : World} {B b : Nat} {d : Int} (t : ByteArray) (n p tk : Int) (tn : ByteArray) (r u : Int) (hn0 : 0 ≤ n) (hn1 : n ≤ 9223372036854775807) :
    PrnT 115 ⟨24, t, n, p, tk, tn, r, u⟩ .nil (digs n.toNat) d B b W := by
  intro A cap hcap hk
  show Prn 115 (nv ⟨24, t, n, p, tk, tn, r, u⟩ A 0 cap) (digs n.toNat) d B b W
  intro l w hp hb hlen
  have HW := Lib.hid (hp.below1 (bx ⟨24, t, n, p, tk, tn, r, u⟩ A 0 cap))
  have HKW := Lib.hid (Kp.alloc w (bx ⟨24, t, n, p, tk, tn, r, u⟩ A 0 cap))
  have S1 := Lib.hid (hp.fresh (bx ⟨24, t, n, p, tk, tn, r, u⟩ A 0 cap))
  have HB := Lib.hid (Nb.new w ⟨24, t, n, p, tk, tn, r, u⟩ A 0 cap)
  obtain ⟨s, hs⟩ : ∃ s : ByteArray, s = ⟨(digs n.toNat).toArray⟩ := ⟨_, rfl⟩
  have e1 : digs n.toNat = s.data.toList := by rw [hs]
  have HS0 := Lib.hid hs
  rw [e1] at hlen ⊢
  clear hs e1
  try simp only [List.length_append, List.length_cons, List.length_nil, len_toList] at hlen
  clear hk hcap hp hb  
  go_enter Tryz.func115, Tryz.ntmps115
  go_wp2_with (first
    | (go_at_call 52; refine (write1 S2.out s (by (try simp only [List.length_append, List.length_cons, List.length_nil, len_toList]); omega) (by first | rfl | simp)).mono ?_; rintro e w3 ⟨rfl, s3⟩; have S3 := Lib.hid s3; clear s3)
    | (go_at_call 130; refine (itoa_at hn0 hn1 S1.out s HS0.out).mono ?_; rintro e w2 ⟨rfl, s2⟩; have S2 := Lib.hid s2; obtain ⟨b10, b11, b12, b13, b14, b15, b16, b17, b18⟩ := (HB.out.kp s2.kp).cells; clear s2))
  go_end0
  exact S3.out.done HW.out HKW.out (by simp [List.append_assoc])
set_option maxRecDepth 100000 in
set_option maxHeartbeats 4000000 in
theorem exp_25 {W : World} {B b : Nat} {d : Int} (t : ByteArray) (n p tk : Int) (tn : ByteArray) (r u : Int) :
    PrnT 115 ⟨25, t, n, p, tk, tn, r, u⟩ .nil (if n = 1 then [116, 114, 117, 101] else [102, 97, 108, 115, 101]) d B b W := by
  intro A cap hcap hk
  show Prn 115 (nv ⟨25, t, n, p, tk, tn, r, u⟩ A 0 cap) (if n = 1 then [116, 114, 117, 101] else [102, 97, 108, 115, 101]) d B b W
  intro l w hp hb hlen
  have HW := Lib.hid (hp.below1 (bx ⟨25, t, n, p, tk, tn, r, u⟩ A 0 cap))
  have HKW := Lib.hid (Kp.alloc w (bx ⟨25, t, n, p, tk, tn, r, u⟩ A 0 cap))
  have S1 := Lib.hid (hp.fresh (bx ⟨25, t, n, p, tk, tn, r, u⟩ A 0 cap))
  have HB := Lib.hid (Nb.new w ⟨25, t, n, p, tk, tn, r, u⟩ A 0 cap)
  obtain ⟨s, hs⟩ : ∃ s : ByteArray, s = if (n == 1) then ⟨#[116, 114, 117, 101]⟩ else ⟨#[102, 97, 108, 115, 101]⟩ := ⟨_, rfl⟩
  have e1 : (if n = 1 then [116, 114, 117, 101] else [102, 97, 108, 115, 101]) = s.data.toList := by
    rw [hs]
    by_cases h1 : n = 1
    · simp [h1]
    · have : (n == 1) = false := by simpa using h1
      simp [h1]
  have HS0 := Lib.hid hs
  rw [e1] at hlen ⊢
  clear hs e1
  try simp only [List.length_append, List.length_cons, List.length_nil, len_toList] at hlen
  clear hk hcap hp hb  
  go_enter Tryz.func115, Tryz.ntmps115
  go_wp2_with (first
    | (go_at_call 52; refine (write1 S2.out s (by (try simp only [List.length_append, List.length_cons, List.length_nil, len_toList]); omega) (by first | rfl | simp)).mono ?_; rintro e w3 ⟨rfl, s3⟩; have S3 := Lib.hid s3; clear s3)
    | (go_at_call 131; refine (fmtBool_at _ S1.out s HS0.out).mono ?_; rintro e w2 ⟨rfl, s2⟩; have S2 := Lib.hid s2; obtain ⟨b10, b11, b12, b13, b14, b15, b16, b17, b18⟩ := (HB.out.kp s2.kp).cells; clear s2))
  go_end0
  exact S3.out.done HW.out HKW.out (by simp [List.append_assoc])
end Go.Proofs.YticbcnhbpbaocaaGreatDoor

namespace Go.Proofs.YticbcnhbpbaocaaGreatDoor
open Go.RowKit T T.Fo
set_option linter.all false

set_option maxRecDepth 100000 in
set_option maxHeartbeats 4000000 in
theorem exp_30 {W : World} {B b : Nat} {d : Int} (t : ByteArray) (n p tk : Int) (tn : ByteArray) (r u : Int) (h0 : Hd) (k0 F : Fo) (t0 : Bs) (τ : Hd → Fo → Bs) (P0 : PrnT 115 h0 k0 t0 d B b W) (PF : F.All fun h k => PrnT 115 h k (τ h k) d B b W) (hm : F.cnt ≤ 1048575) :
    PrnT 115 ⟨30, t, n, p, tk, tn, r, u⟩ (.cons h0 k0 F) (par (h0.kind == 32 || h0.kind == 31 || h0.kind == 33) t0 ++ [40] ++ joinC (mapF τ F) ++ [41]) d B b W := by
  intro A cap hcap hk
  obtain ⟨m, hme⟩ : ∃ m, F.len = m := ⟨_, rfl⟩
  have hml : m ≤ 1048575 := by have := F.len_le_cnt; omega
  have hcap2 : m + 1 ≤ cap := by rw [← hme]; exact hcap
  show Prn 115 (nv _ A (F.len + 1) cap) _ d B b W
  rw [hme]
  intro l w hp hb hlen
  obtain ⟨g, o, A0, c0, rfl, hg, h90, hc0, hk0, hl0⟩ := kid1 hk
  obtain ⟨m1, hm1⟩ : ∃ m1, m + 1 = m1 := ⟨_, rfl⟩
  rw [hm1] at hcap2 ⊢
  have hm1l : m1 ≤ 1048576 := by omega
  have HW := Lib.hid (hp.below1 (bx ⟨30, t, n, p, tk, tn, r, u⟩ (some ⟨g, o, none⟩) m1 cap))
  have HKW := Lib.hid (Kp.alloc w (bx ⟨30, t, n, p, tk, tn, r, u⟩ (some ⟨g, o, none⟩) m1 cap))
  have S1 := Lib.hid (hp.fresh (bx ⟨30, t, n, p, tk, tn, r, u⟩ (some ⟨g, o, none⟩) m1 cap))
  have HB := Lib.hid (Nb.new w ⟨30, t, n, p, tk, tn, r, u⟩ (some ⟨g, o, none⟩) m1 cap)
  have HK0 := Lib.hid (h90.below (hb.trans HW.out) hg)
  have HP0 := Lib.hid ((primary_any (P0 A0 c0 hc0 hk0)).mono (hb.trans HW.out))
  have hkF : Kids (Lt B) W (some ⟨g, o + 9, none⟩) F := .inr ⟨g, o + 9, rfl, hl0⟩
  obtain ⟨tx, htx⟩ : ∃ tx, joinC (mapF τ F) = tx := ⟨_, rfl⟩
  have HL : Hid (∀ A' l1 W1, (A' = some ⟨g, o + 9, none⟩ ∨ m1 = 1) → Sn (w.alloc (bx ⟨30, t, n, p, tk, tn, r, u⟩ (some ⟨g, o, none⟩) m1 cap)) B b l1 d W1 → l1.length + tx.length ≤ lim → ∀ cap', Calls Tryz.prog 98 #[pt b, .slice A' (m1 - 1) cap', .func (.func 115) #[pt b] #[]] W1 (Done (w.alloc (bx ⟨30, t, n, p, tk, tn, r, u⟩ (some ⟨g, o, none⟩) m1 cap)) B b (l1 ++ tx) d)) := Lib.hid fun A' l1 W1 hA s1 hl cap' => by
    rw [← htx] at hl ⊢
    have e : m1 - 1 = F.len := by omega
    rw [e]
    have hbb : Below B W W1 := (hb.trans HW.out).trans s1.bl
    have hkA : Kids (Lt B) W1 A' F := by
      rcases hA with rfl | h1
      · exact hkF.below hbb (Nat.le_refl _)
      · exact .inl (Fo.len_zero (by omega))
    exact list_115 F τ s1 hkA (all_imp (fun h k hh => hh.mv (hb.trans HW.out)) PF) (fun A k h => kids_back h s1.bl) (by omega) hl
  rw [htx] at hlen ⊢
  have H1 := Lib.hid hm1
  simp only [List.length_append, List.length_cons, List.length_nil, len_toList] at hlen
  clear hk hcap hp hb h90 hc0 hk0 hl0 P0 PF hkF htx hme hm1
  have hm10 : 1 ≤ m1 := by have := H1.out; omega
  obtain ⟨q00, q01, q02, q03, q04, q05, q06, q07, q08⟩ := HK0.out
  go_enter Tryz.func115, Tryz.ntmps115
  go_wp2_with (first
    | (go_at_call 52; refine (write1 S4.out ⟨#[41]⟩ (by (try simp only [List.length_append, List.length_cons, List.length_nil, len_toList]); (try show _ ≤ _); omega) (by first | rfl | simp)).mono ?_; rintro e w5 ⟨rfl, s5⟩; have S5 := Lib.hid s5; clear s5)
    | (go_at_call 98; refine (HL.out _ _ _ (by first | exact .inl rfl | exact .inr (by omega)) S3.out (by (try simp only [List.length_append, List.length_cons, List.length_nil, len_toList]); (try show _ ≤ _); omega) _).mono ?_; rintro e w4 ⟨rfl, s4⟩; have S4 := Lib.hid s4; clear s4)
    | (go_at_call 52; refine (write1 S2.out ⟨#[40]⟩ (by (try simp only [List.length_append, List.length_cons, List.length_nil, len_toList]); (try show _ ≤ _); omega) (by first | rfl | simp)).mono ?_; rintro e w3 ⟨rfl, s3⟩; have S3 := Lib.hid s3; obtain ⟨d0, d1, d2, d3, d4, d5, d6, d7, d8⟩ := (HB.out.kp s3.kp).cells; clear s3)
    | (go_at_call 128; refine (S1.out.prn HP0.out (by (try simp only [List.length_append, List.length_cons, List.length_nil, len_toList]); (try show _ ≤ _); omega)).mono ?_; rintro e w2 ⟨rfl, s2⟩; have S2 := Lib.hid s2; obtain ⟨b0, b1, b2, b3, b4, b5, b6, b7, b8⟩ := (HB.out.kp s2.kp).cells; clear s2))
  all_goals
    go_end0
    exact S5.out.done HW.out HKW.out (by simp [List.append_assoc])
end Go.Proofs.YticbcnhbpbaocaaGreatDoor

namespace Go.Proofs.YticbcnhbpbaocaaGreatDoor
open Go.RowKit T T.Fo
set_option linter.all false

/-- The texts of a row, one behind the other. -/
def flatF (σ : Hd → Fo → Bs) (F : Fo) : Bs := (mapF σ F).flatten
theorem flatF_nil (σ : Hd → Fo → Bs) : flatF σ .nil = [] := rfl
theorem flatF_cons (σ : Hd → Fo → Bs) (h : Hd) (k r : Fo) : flatF σ (.cons h k r) = σ h k ++ flatF σ r := by simp [flatF, mapF]

set_option maxRecDepth 100000 in
set_option maxHeartbeats 4000000 in
theorem result_any {W : World} {B b : Nat} {d : Int} (h : Hd) (F : Fo) (τ : Hd → Fo → Bs) (hP : F.All fun h k => PrnT 115 h k (τ h k) d B b W) (hm : F.cnt ≤ 1048576) :
    PrnT 135 h F ([114, 101, 116, 117, 114, 110] ++ flatF (fun h k => [32] ++ τ h k) F) d B b W := by
  intro A cap hcap hk l w hp hb hlen
  obtain ⟨m, hme⟩ : ∃ m, F.len = m := ⟨_, rfl⟩
  have hml : m ≤ 1048576 := by have := F.len_le_cnt; omega
  have HME := Lib.hid hme
  rw [hme]
  have HW := Lib.hid (hp.below1 (bx h A m cap))
  have HKW := Lib.hid (Kp.alloc w (bx h A m cap))
  have S1 := Lib.hid (hp.fresh (bx h A m cap))
  have HB := Lib.hid (Nb.new w h A m cap)
  have HBW := Lib.hid (hb.trans HW.out)
  have HR := Lib.hid (Rest.start hk)
  have HP := Lib.hid hP
  obtain ⟨tx, htx⟩ : ∃ tx, flatF (fun h k => [32] ++ τ h k) F = tx := ⟨_, rfl⟩
  have HTX := Lib.hid htx
  rw [htx] at hlen ⊢
  simp only [List.length_append, List.length_cons, List.length_nil] at hlen
  clear hk hcap hp hb hP hme htx
  go_enter Tryz.func135, Tryz.ntmps135
  go_wp2_with (go_at_call 52; refine (write1 S1.out ⟨#[114, 101, 116, 117, 114, 110]⟩ (by show _ + 6 ≤ _; omega) (by first | rfl | simp)).mono ?_; rintro e w2 ⟨rfl, s2⟩; have S2 := Lib.hid s2; obtain ⟨b0, b1, b2, b3, b4, b5, b6, b7, b8⟩ := (HB.out.kp s2.kp).cells; clear s2)
  go_loopw [12] (fun ix wr => ∃ (i : Nat) (R : Fo) (l' : Bs), ix = .int .i64 (i : Int) ∧ Rest (Lt B) W A F i R ∧ (R.All fun h k => PrnT 115 h k (τ h k) d B b W) ∧ Sn w2 B b l' d wr ∧ l' ++ flatF (fun h k => [32] ++ τ h k) R = l ++ [114, 101, 116, 117, 114, 110] ++ tx) (fun ix _ => m - (intOf ix).toNat)
  case atStart => exact ⟨0, F, l ++ [114, 101, 116, 117, 114, 110], rfl, HR.out, HP.out, Sn.start S2.out.pz, by rw [HTX.out]⟩
  case round =>
    obtain ⟨i, R, l', rfl, hr, hp, hs, ht⟩ := hrel
    have HS := Lib.hid hs
    cases R with
    | nil =>
      have hi := hr.stop
      obtain rfl : i = m := by have := HME.out; omega
      have e : l' = l ++ [114, 101, 116, 117, 114, 110] ++ tx := by rw [← ht, flatF_nil]; simp
      have HE := Lib.hid e
      clear hr hp hs ht hi e
      go_wp2
      go_end0
      exact (S2.out.trans HS.out).done HW.out HKW.out (by rw [HE.out]; simp)
    | cons h' k' r =>
      obtain ⟨g, o, A', cap', rfl, h9, hkc, hk', hr', hi, hg⟩ := hr.next
      have hgB : g < B := hg
      have hbb : Below B W wr := (HBW.out.trans S2.out.bl).trans hs.bl
      obtain ⟨c0, c1, c2, c3, c4, c5, c6, c7, c8⟩ := h9.below hbb hgB
      have hrw := hr.tail
      have HRR := Lib.hid hrw
      obtain ⟨p1, p2⟩ := hp
      have HP2 := Lib.hid p2
      have HP1 := Lib.hid ((p1 A' cap' hkc hk').mono hbb)
      obtain ⟨t1, ht1⟩ : ∃ t1, τ h' k' = t1 := ⟨_, rfl⟩
      rw [ht1] at HP1
      have S3 := Lib.hid (Sn.start (hs.pz.keep ((Below.refl wr.heap.size wr).alloc (Nat.le_refl _) (bx h' A' k'.len cap'))))
      have HWR := Lib.hid (hs.al (bx h' A' k'.len cap'))
      have HP3 := Lib.hid (HP1.out.mono (hs.pz.below1 (bx h' A' k'.len cap')))
      have him : i < m := by have := HME.out; omega
      have hi1 : (i : Int) < (m : Int) := by omega
      have hi2 : ¬ (m : Int) ≤ (i : Int) := by omega
      have e2 : (l' ++ [32] ++ t1) ++ flatF (fun h k => [32] ++ τ h k) r = l ++ [114, 101, 116, 117, 114, 110] ++ tx := by
        rw [← ht, flatF_cons, ht1]; simp
      have hl2 : l'.length + 1 + t1.length ≤ lim := by
        have := congrArg List.length e2
        simp only [List.length_append, List.length_cons, List.length_nil] at this
        omega
      have HE := Lib.hid e2
      clear hr hr' hrw hk' p1 p2 hs ht h9 e2 ht1 hbb
      go_wp2_with (go_at_call 97; refine (around_any ⟨#[32]⟩ ⟨#[]⟩ S3.out HP3.out (by show _ + 1 + _ + 0 ≤ _; omega)).mono ?_; rintro e w3 ⟨rfl, s3⟩; have S4 := Lib.hid s3; clear s3)
      go_roundw
      case rel => exact ⟨i + 1, r, l' ++ [32] ++ t1, by go_num, HRR.out, HP2.out, by simpa using HWR.out.trans S4.out, HE.out⟩
      case measure => simp [intOf]; omega
end Go.Proofs.YticbcnhbpbaocaaGreatDoor

namespace Go.Proofs.YticbcnhbpbaocaaGreatDoor
open Go.RowKit T T.Fo
set_option linter.all false


/-- A case prints. -/
def CaseP (d d1 : Int) (B b : Nat) (W : World) (τ σ : Hd → Fo → Bs) (h : Hd) (k : Fo) : Prop :=
  ∃ h0 k0 h1 k1 t0, k = .cons h0 k0 (.cons h1 k1 .nil) ∧ PrnT 152 h0 k0 t0 d B b W ∧ (k1.All fun h k => PrnT 116 h k (τ h k) d1 B b W) ∧ k1.cnt ≤ 1048576 ∧ σ h k = t0 ++ [58, 10] ++ linF d1 τ k1
set_option maxRecDepth 100000 in
set_option maxHeartbeats 4000000 in
theorem choice_any {W : World} {B b : Nat} {d d1 : Int} (h : Hd) (F : Fo) (τ σ : Hd → Fo → Bs) (hd : 0 ≤ d) (hd6 : d ≤ 60) (hd1 : d + 1 = d1) (hP : F.All (CaseP d d1 B b W τ σ)) (hm : F.cnt ≤ 1048576) :
    PrnT 136 h F ([115, 101, 108, 101, 99, 116, 32, 123, 10] ++ flatF (fun h k => T.tabs d.toNat ++ σ h k) F ++ T.tabs d.toNat ++ [125]) d B b W := by
  intro A cap hcap hk l w hp hb hlen
  obtain ⟨m, hme⟩ : ∃ m, F.len = m := ⟨_, rfl⟩
  have hml : m ≤ 1048576 := by have := F.len_le_cnt; omega
  have HME := Lib.hid hme
  rw [hme]
  have HW := Lib.hid (hp.below1 (bx h A m cap))
  have HKW := Lib.hid (Kp.alloc w (bx h A m cap))
  have S1 := Lib.hid (hp.fresh (bx h A m cap))
  have HB := Lib.hid (Nb.new w h A m cap)
  have HBW := Lib.hid (hb.trans HW.out)
  have HR := Lib.hid (Rest.start hk)
  have HP := Lib.hid hP
  have HD1 := Lib.hid hd1
  obtain ⟨tx, htx⟩ : ∃ tx, flatF (fun h k => T.tabs d.toNat ++ σ h k) F = tx := ⟨_, rfl⟩
  have HTX := Lib.hid htx
  rw [htx] at hlen ⊢
  simp only [List.length_append, List.length_cons, List.length_nil] at hlen
  clear hk hcap hp hb hP hme htx hd1
  go_enter Tryz.func136, Tryz.ntmps136
  go_wp2_with (go_at_call 52; refine (write1 S1.out ⟨#[115, 101, 108, 101, 99, 116, 32, 123, 10]⟩ (by show _ + 9 ≤ _; omega) (by first | rfl | simp)).mono ?_; rintro e w2 ⟨rfl, s2⟩; have S2 := Lib.hid s2; obtain ⟨b0, b1, b2, b3, b4, b5, b6, b7, b8⟩ := (HB.out.kp s2.kp).cells; clear s2)
  go_loopw [12] (fun ix wr => ∃ (i : Nat) (R : Fo) (l' : Bs), ix = .int .i64 (i : Int) ∧ Rest (Lt B) W A F i R ∧ R.All (CaseP d d1 B b W τ σ) ∧ Sn w2 B b l' d wr ∧ l' ++ flatF (fun h k => T.tabs d.toNat ++ σ h k) R = l ++ [115, 101, 108, 101, 99, 116, 32, 123, 10] ++ tx) (fun ix _ => m - (intOf ix).toNat)
  case atStart => exact ⟨0, F, l ++ [115, 101, 108, 101, 99, 116, 32, 123, 10], rfl, HR.out, HP.out, Sn.start S2.out.pz, by rw [HTX.out]⟩
  case round =>
    obtain ⟨i, R, l', rfl, hr, hp, hs, ht⟩ := hrel
    have HS := Lib.hid (S2.out.trans hs)
    cases R with
    | nil =>
      have hi := hr.stop
      obtain rfl : i = m := by have := HME.out; omega
      have e : l' = l ++ [115, 101, 108, 101, 99, 116, 32, 123, 10] ++ tx := by
        have ht2 := ht
        rw [flatF_nil, List.append_nil] at ht2
        exact ht2
      have HE := Lib.hid e
      have hl3 : l'.length = l.length + 9 + tx.length := by rw [e]; simp only [List.length_append, List.length_cons, List.length_nil]
      clear hr hp hs ht hi e
      go_wp2_with (first
        | (go_at_call 52; refine (write1 S4.out ⟨#[125]⟩ (by (try simp only [List.length_append, List.length_cons, List.length_nil, len_toList]); (try show _ ≤ _); omega) (by first | rfl | simp)).mono ?_; rintro e w4 ⟨rfl, s4⟩; have S5 := Lib.hid s4; clear s4)
        | (go_at_call 95; refine (indent_any HS.out (by omega) (by omega) (by omega)).mono ?_; rintro e w3 ⟨rfl, s3⟩; have S4 := Lib.hid s3; clear s3))
      go_end0
      exact S5.out.done HW.out HKW.out (by rw [HE.out]; simp)
    | cons h' k' r =>
      obtain ⟨g, o, A', cap', rfl, h9, hkc, hk', hr', hi, hg⟩ := hr.next
      have hgB : g < B := hg
      have hrw := hr.tail
      have HRR := Lib.hid hrw
      obtain ⟨⟨h0, k0, h1, k1, t0, rfl, q0, q1, q2, q3⟩, p2⟩ := hp
      have HP2 := Lib.hid p2
      have hkc2 : 2 ≤ cap' := hkc
      have h9' : At9 W g (o + i * 9) h' A' 2 cap' := h9
      obtain ⟨g2, o2, A0, c0, rfl, hg2, h90, hc0, hk0, hl0⟩ := kid1 hk'
      obtain ⟨A1, c1, _, h91, hc1, hk1, hl1⟩ := lie1 hl0
      have hbb : Below B W wr := (HBW.out.trans S2.out.bl).trans hs.bl
      obtain ⟨v0, v1, v2, v3, v4, v5, v6, v7, v8⟩ := h9'.below hbb hgB
      have HBX := Lib.hid (Nb.new wr h' (some ⟨g2, o2, none⟩) 2 cap')
      have S3 := Lib.hid (Sn.start (hs.pz.keep ((Below.refl wr.heap.size wr).alloc (Nat.le_refl _) (bx h' (some ⟨g2, o2, none⟩) 2 cap'))))
      have HWR := Lib.hid (hs.al (bx h' (some ⟨g2, o2, none⟩) 2 cap'))
      have hbx : Below B W (wr.alloc (bx h' (some ⟨g2, o2, none⟩) 2 cap')) := hbb.trans (hs.pz.below1 _)
      have HP3 := Lib.hid ((q0 A0 c0 hc0 hk0).mono hbx)
      have HK0 := Lib.hid (h90.below hbx hg2)
      have HK1 := Lib.hid (h91.below hbx hg2)
      obtain ⟨lx, hlx⟩ : ∃ lx, linF d1 τ k1 = lx := ⟨_, rfl⟩
      obtain ⟨n1, hn1⟩ : ∃ n1, k1.len = n1 := ⟨_, rfl⟩
      have hn1l : n1 ≤ 1048576 := by have := k1.len_le_cnt; omega
      have HL : Hid (∀ l1 W1, Sn (wr.alloc (bx h' (some ⟨g2, o2, none⟩) 2 cap')) B b l1 d W1 → l1.length + lx.length ≤ lim → Calls Tryz.prog 94 #[pt b, .slice A1 n1 c1, .func (.func 116) #[pt b] #[]] W1 (Done (wr.alloc (bx h' (some ⟨g2, o2, none⟩) 2 cap')) B b (l1 ++ lx) d)) := Lib.hid fun l1 W1 s1 hl => by
        rw [← hlx] at hl ⊢
        rw [← hn1]
        exact lines_116 k1 τ s1 hd hd6 HD1.out (hk1.below (hbx.trans s1.bl) (Nat.le_refl _)) (all_imp (fun h k hh => hh.mv hbx) q1) (fun A k h => kids_back h s1.bl) q2 hl
      have him : i < m := by have := HME.out; omega
      have hi1 : (i : Int) < (m : Int) := by omega
      have hi2 : ¬ (m : Int) ≤ (i : Int) := by omega
      have e2 : (l' ++ T.tabs d.toNat ++ t0 ++ [58, 10] ++ lx) ++ flatF (fun h k => T.tabs d.toNat ++ σ h k) r = l ++ [115, 101, 108, 101, 99, 116, 32, 123, 10] ++ tx := by
        rw [← ht, flatF_cons, q3, hlx]; simp
      have hl2 : l'.length + (T.tabs d.toNat).length + t0.length + 2 + lx.length ≤ lim := by
        have := congrArg List.length e2
        simp only [List.length_append, List.length_cons, List.length_nil] at this
        omega
      have HE := Lib.hid e2
      rw [hn1] at HK1
      clear hr hr' hrw hk' p2 hs ht h9 h9' e2 hbb hbx q0 q1 q2 q3 h90 h91 hk0 hk1 hl0 hl1 hlx hn1 HS hkc hc0 hc1
      go_wp2_with (first
        | (go_at_call 94; refine (HL.out _ _ S6.out (by (try simp only [List.length_append, List.length_cons, List.length_nil, len_toList]); (try show _ ≤ _); omega)).mono ?_; rintro e w6 ⟨rfl, s6⟩; have S7 := Lib.hid s6; clear s6)
        | (go_at_call 52; refine (write1 S5.out ⟨#[58, 10]⟩ (by (try simp only [List.length_append, List.length_cons, List.length_nil, len_toList]); (try show _ ≤ _); omega) (by first | rfl | simp)).mono ?_; rintro e w5 ⟨rfl, s5⟩; have S6 := Lib.hid s5; obtain ⟨x0, x1, x2, x3, x4, x5, x6, x7, x8⟩ := (HBX.out.kp s5.kp).cells; obtain ⟨y0, y1, y2, y3, y4, y5, y6, y7, y8⟩ := HK1.out.below s5.bl hg2; clear s5)
        | (go_at_call 152; refine (S4.out.prn HP3.out (by (try simp only [List.length_append, List.length_cons, List.length_nil, len_toList]); (try show _ ≤ _); omega)).mono ?_; rintro e w4 ⟨rfl, s4⟩; have S5 := Lib.hid s4; clear s4)
        | (go_at_call 95; refine (indent_any S3.out (by omega) (by omega) (by omega)).mono ?_; rintro e w3 ⟨rfl, s3⟩; have S4 := Lib.hid s3; obtain ⟨x0, x1, x2, x3, x4, x5, x6, x7, x8⟩ := (HBX.out.kp s3.kp).cells; obtain ⟨y0, y1, y2, y3, y4, y5, y6, y7, y8⟩ := HK0.out.below s3.bl hg2; clear s3))
      go_roundw
      case rel => exact ⟨i + 1, r, l' ++ T.tabs d.toNat ++ t0 ++ [58, 10] ++ lx, by go_num, HRR.out, HP2.out, HWR.out.trans S7.out, HE.out⟩
      case measure => simp [intOf]; omega
end Go.Proofs.YticbcnhbpbaocaaGreatDoor
