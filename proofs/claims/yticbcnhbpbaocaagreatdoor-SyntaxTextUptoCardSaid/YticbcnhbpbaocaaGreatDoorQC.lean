/-
  The walks of the printer's lists: list, lines, braces.
  The walk of list over expressions.
  The walks of the printer's lines and braces.
  The walks of lines and braces over statements.
  The walks of block, field.
-/
import Derived.Test.YticbcnhbpbaocaaGreatDoorQB

set_option linter.all false
namespace Go.Proofs.YticbcnhbpbaocaaGreatDoor
open Go.RowKit T T.Fo
set_option linter.all false

/-- The texts of a row of trees. -/
def mapF (τ : Hd → Fo → Bs) : Fo → List Bs
  | .nil => []
  | .cons h k r => τ h k :: mapF τ r
def joinT : List Bs → Bs
  | [] => []
  | a :: l => [44, 32] ++ a ++ joinT l
theorem joinC_cons (a : Bs) (l : List Bs) : joinC (a :: l) = a ++ joinT l := by
  induction l generalizing a with
  | nil => simp [joinC, joinT]
  | cons c l ih => simp only [joinC, joinT, ih]; simp
theorem Pz.setTabs {W : World} {B b : Nat} {l : Bs} {d : Int} (h : Pz W B b l d) (d' : Int) : Pz (W.setCell ⟨b, 2, none⟩ (.int .i64 d')) B b l d' ∧ Below B W (W.setCell ⟨b, 2, none⟩ (.int .i64 d')) ∧ Kp W (W.setCell ⟨b, 2, none⟩ (.int .i64 d')) := by
  obtain ⟨⟨p, A, cap, hp, hle, hbk, hown, hne⟩, tb, hB, g⟩ := h
  have hb : Below B W (W.setCell ⟨b, 2, none⟩ (.int .i64 d')) := (Below.refl B W).setCell (p := ⟨b, 2, none⟩) hle _
  refine ⟨⟨⟨p, A, cap, hp, hle, ?_, ?_, hne⟩, tb.below hb g, by have := hb.size; omega, g⟩, hb, Kp.set_ hbk 2 _⟩
  · simp [World.setCell, Array.getElem?_modify, hbk]
  · exact hown.kept (row := some b) ⟨rfl, rfl, rfl, by simp [World.setCell], fun k _ hk => Below.heap_setCell _ _ _ _ (fun e => hk (by simp [e]))⟩ (Or.inr hne)
theorem Sn.setTabs {w1 W : World} {B b : Nat} {l : Bs} {d : Int} (h : Sn w1 B b l d W) (d' : Int) : Sn w1 B b l d' (W.setCell ⟨b, 2, none⟩ (.int .i64 d')) :=
  ⟨(h.pz.setTabs d').1, h.bl.trans (h.pz.setTabs d').2.1, h.kp.trans (h.pz.setTabs d').2.2⟩

set_option maxRecDepth 100000 in
set_option maxHeartbeats 4000000 in
theorem list_71 {w1 W : World} {B b cap : Nat} {l : Bs} {d : Int} {A : Option Addr} (F : Fo) (τ : Hd → Fo → Bs) (H : Sn w1 B b l d W) (hk : Kids (Lt B) W A F) (hP : F.All fun h k => PrnT 71 h k (τ h k) d B b w1) (hkk : ∀ A k, Kids (Lt B) W A k → Kids (Lt B) w1 A k) (hm : F.cnt ≤ 1048576)
    (hlen : l.length + (joinC (mapF τ F)).length ≤ lim) :
    Calls Tryz.prog 98 #[pt b, .slice A F.len cap, .func (.func 71) #[pt b] #[]] W (Done w1 B b (l ++ joinC (mapF τ F)) d) := by
  obtain ⟨m, hme⟩ : ∃ m, F.len = m := ⟨_, rfl⟩
  have hml : m ≤ 1048576 := by have := F.len_le_cnt; omega
  have HME := Lib.hid hme
  have HH := Lib.hid H
  have HR := Lib.hid (Rest.start hk)
  have HP := Lib.hid hP
  have HKK := Lib.hid hkk
  rw [hme]
  clear H hk hP hkk hme
  go_enter Tryz.func98, Tryz.ntmps98
  go_wp2
  go_loopw [10] (fun ix wr => ∃ (i : Nat) (R : Fo) (l' : Bs), ix = .int .i64 (i : Int) ∧ Rest (Lt B) W A F i R ∧ (R.All fun h k => PrnT 71 h k (τ h k) d B b w1) ∧ Sn W B b l' d wr ∧ l' ++ (if i = 0 then joinC (mapF τ R) else joinT (mapF τ R)) = l ++ joinC (mapF τ F)) (fun ix _ => m - (intOf ix).toNat)
  case atStart => exact ⟨0, F, l, rfl, HR.out, HP.out, Sn.start HH.out.pz, rfl⟩
  case round =>
    obtain ⟨i, R, l', rfl, hr, hp, hs, ht⟩ := hrel
    have HT := Lib.hid ht
    have HS := Lib.hid hs
    cases R with
    | nil =>
      have hi := hr.stop
      obtain rfl : i = m := by have := HME.out; omega
      have e : l' = l ++ joinC (mapF τ F) := by
        rw [← ht]
        by_cases h0 : i = 0
        · rw [if_pos h0]; simp [mapF, joinC]
        · rw [if_neg h0]; simp [mapF, joinT]
      have HE := Lib.hid e
      clear hr hp hs ht hi e
      go_wp2
      go_end0
      refine ⟨rfl, ?_⟩
      rw [← HE.out]
      exact ⟨HS.out.pz, HH.out.bl.trans HS.out.bl, HH.out.kp.trans HS.out.kp⟩
    | cons h' k' r =>
      obtain ⟨g, o, A', cap', rfl, h9, hkc, hk', hr', hi, hg⟩ := hr.next
      have hgB : g < B := hg
      obtain ⟨c0, c1, c2, c3, c4, c5, c6, c7, c8⟩ := h9.below hs.bl hgB
      have hrw := hr.tail
      have HRR := Lib.hid hrw
      obtain ⟨p1, p2⟩ := hp
      have HP2 := Lib.hid p2
      have HP1 := Lib.hid ((p1 A' cap' hkc (HKK.out A' k' hk')).mono (HH.out.bl.trans hs.bl))
      obtain ⟨tx, htx⟩ : ∃ tx, τ h' k' = tx := ⟨_, rfl⟩
      rw [htx] at HP1
      have HBX := Lib.hid (Nb.new wr h' A' k'.len cap')
      have S1 := Lib.hid (Sn.start (hs.pz.keep ((Below.refl wr.heap.size wr).alloc (Nat.le_refl _) (bx h' A' k'.len cap'))))
      have HWR := Lib.hid (hs.al (bx h' A' k'.len cap'))
      have HP3 := Lib.hid (HP1.out.mono (hs.pz.below1 (bx h' A' k'.len cap')))
      have him : i < m := by have := HME.out; omega
      have hi1 : (i : Int) < (m : Int) := by omega
      have hi2 : ¬ (m : Int) ≤ (i : Int) := by omega
      by_cases h0 : i = 0
      · subst h0
        simp only [Nat.zero_mul, Nat.add_zero] at c0 c1 c2 c3 c4 c5 c6 c7 c8
        have e1 : l' ++ joinC (mapF τ (.cons h' k' r)) = l ++ joinC (mapF τ F) := by simpa using ht
        have e2 : (l' ++ tx) ++ joinT (mapF τ r) = l ++ joinC (mapF τ F) := by
          rw [← e1, mapF, joinC_cons, htx]; simp
        have hl2 : l'.length + tx.length ≤ lim := by
          have := congrArg List.length e2
          simp only [List.length_append] at this
          omega
        have HE := Lib.hid e2
        clear hr hr' hrw hk' p1 p2 hs ht h9 e1 e2 htx
        go_wp2_with (go_at_call 71; refine (S1.out.prn HP3.out hl2).mono ?_; rintro e w2 ⟨rfl, s2⟩; have S2 := Lib.hid s2; clear s2)
        go_roundw
        case rel => exact ⟨1, r, l' ++ tx, by go_num, HRR.out, HP2.out, ⟨S2.out.pz, HWR.out.bl.trans S2.out.bl, HWR.out.kp.trans S2.out.kp⟩, by simpa using HE.out⟩
        case measure => simp [intOf]; omega
      · have e1 : l' ++ joinT (mapF τ (.cons h' k' r)) = l ++ joinC (mapF τ F) := by rw [← ht, if_neg h0]
        have e2 : (l' ++ [44, 32] ++ tx) ++ joinT (mapF τ r) = l ++ joinC (mapF τ F) := by
          rw [← e1, mapF, joinT, htx]; simp
        have hl2 : l'.length + 2 + tx.length ≤ lim := by
          have := congrArg List.length e2
          simp only [List.length_append, List.length_cons, List.length_nil] at this
          omega
        have HE := Lib.hid e2
        have hi3 : (0 : Int) < (i : Int) := by omega
        clear hr hr' hrw hk' p1 p2 hs ht h9 e1 e2 htx
        go_wp2_with (first
          | (go_at_call 71; refine (S2.out.prn HP3.out (by simp only [List.length_append]; show _ + 2 + _ ≤ _; omega)).mono ?_; rintro e w3 ⟨rfl, s3⟩; have S3 := Lib.hid s3; clear s3)
          | (go_at_call 52; refine (write1 S1.out ⟨#[44, 32]⟩ (by show _ + 2 ≤ _; omega) (by simp)).mono ?_; rintro e w2 ⟨rfl, s2⟩; have S2 := Lib.hid s2; obtain ⟨b0, b1, b2, b3, b4, b5, b6, b7, b8⟩ := (HBX.out.kp s2.kp).cells; clear s2))
        go_roundw
        case rel => exact ⟨i + 1, r, l' ++ [44, 32] ++ tx, by go_num, HRR.out, HP2.out, ⟨S3.out.pz, HWR.out.bl.trans S3.out.bl, HWR.out.kp.trans S3.out.kp⟩, by simpa using HE.out⟩
        case measure => simp [intOf]; omega
end Go.Proofs.YticbcnhbpbaocaaGreatDoor

namespace Go.Proofs.YticbcnhbpbaocaaGreatDoor
open Go.RowKit T T.Fo
set_option linter.all false

set_option maxRecDepth 100000 in
set_option maxHeartbeats 4000000 in
theorem list_115 {w1 W : World} {B b cap : Nat} {l : Bs} {d : Int} {A : Option Addr} (F : Fo) (τ : Hd → Fo → Bs) (H : Sn w1 B b l d W) (hk : Kids (Lt B) W A F) (hP : F.All fun h k => PrnT 115 h k (τ h k) d B b w1) (hkk : ∀ A k, Kids (Lt B) W A k → Kids (Lt B) w1 A k) (hm : F.cnt ≤ 1048576)
    (hlen : l.length + (joinC (mapF τ F)).length ≤ lim) :
    Calls Tryz.prog 98 #[pt b, .slice A F.len cap, .func (.func 115) #[pt b] #[]] W (Done w1 B b (l ++ joinC (mapF τ F)) d) := by
  obtain ⟨m, hme⟩ : ∃ m, F.len = m := ⟨_, rfl⟩
  have hml : m ≤ 1048576 := by have := F.len_le_cnt; omega
  have HME := Lib.hid hme
  have HH := Lib.hid H
  have HR := Lib.hid (Rest.start hk)
  have HP := Lib.hid hP
  have HKK := Lib.hid hkk
  rw [hme]
  clear H hk hP hkk hme
  go_enter Tryz.func98, Tryz.ntmps98
  go_wp2
  go_loopw [10] (fun ix wr => ∃ (i : Nat) (R : Fo) (l' : Bs), ix = .int .i64 (i : Int) ∧ Rest (Lt B) W A F i R ∧ (R.All fun h k => PrnT 115 h k (τ h k) d B b w1) ∧ Sn W B b l' d wr ∧ l' ++ (if i = 0 then joinC (mapF τ R) else joinT (mapF τ R)) = l ++ joinC (mapF τ F)) (fun ix _ => m - (intOf ix).toNat)
  case atStart => exact ⟨0, F, l, rfl, HR.out, HP.out, Sn.start HH.out.pz, rfl⟩
  case round =>
    obtain ⟨i, R, l', rfl, hr, hp, hs, ht⟩ := hrel
    have HT := Lib.hid ht
    have HS := Lib.hid hs
    cases R with
    | nil =>
      have hi := hr.stop
      obtain rfl : i = m := by have := HME.out; omega
      have e : l' = l ++ joinC (mapF τ F) := by
        rw [← ht]
        by_cases h0 : i = 0
        · rw [if_pos h0]; simp [mapF, joinC]
        · rw [if_neg h0]; simp [mapF, joinT]
      have HE := Lib.hid e
      clear hr hp hs ht hi e
      go_wp2
      go_end0
      refine ⟨rfl, ?_⟩
      rw [← HE.out]
      exact ⟨HS.out.pz, HH.out.bl.trans HS.out.bl, HH.out.kp.trans HS.out.kp⟩
    | cons h' k' r =>
      obtain ⟨g, o, A', cap', rfl, h9, hkc, hk', hr', hi, hg⟩ := hr.next
      have hgB : g < B := hg
      obtain ⟨c0, c1, c2, c3, c4, c5, c6, c7, c8⟩ := h9.below hs.bl hgB
      have hrw := hr.tail
      have HRR := Lib.hid hrw
      obtain ⟨p1, p2⟩ := hp
      have HP2 := Lib.hid p2
      have HP1 := Lib.hid ((p1 A' cap' hkc (HKK.out A' k' hk')).mono (HH.out.bl.trans hs.bl))
      obtain ⟨tx, htx⟩ : ∃ tx, τ h' k' = tx := ⟨_, rfl⟩
      rw [htx] at HP1
      have HBX := Lib.hid (Nb.new wr h' A' k'.len cap')
      have S1 := Lib.hid (Sn.start (hs.pz.keep ((Below.refl wr.heap.size wr).alloc (Nat.le_refl _) (bx h' A' k'.len cap'))))
      have HWR := Lib.hid (hs.al (bx h' A' k'.len cap'))
      have HP3 := Lib.hid (HP1.out.mono (hs.pz.below1 (bx h' A' k'.len cap')))
      have him : i < m := by have := HME.out; omega
      have hi1 : (i : Int) < (m : Int) := by omega
      have hi2 : ¬ (m : Int) ≤ (i : Int) := by omega
      by_cases h0 : i = 0
      · subst h0
        simp only [Nat.zero_mul, Nat.add_zero] at c0 c1 c2 c3 c4 c5 c6 c7 c8
        have e1 : l' ++ joinC (mapF τ (.cons h' k' r)) = l ++ joinC (mapF τ F) := by simpa using ht
        have e2 : (l' ++ tx) ++ joinT (mapF τ r) = l ++ joinC (mapF τ F) := by
          rw [← e1, mapF, joinC_cons, htx]; simp
        have hl2 : l'.length + tx.length ≤ lim := by
          have := congrArg List.length e2
          simp only [List.length_append] at this
          omega
        have HE := Lib.hid e2
        clear hr hr' hrw hk' p1 p2 hs ht h9 e1 e2 htx
        go_wp2_with (go_at_call 115; refine (S1.out.prn HP3.out hl2).mono ?_; rintro e w2 ⟨rfl, s2⟩; have S2 := Lib.hid s2; clear s2)
        go_roundw
        case rel => exact ⟨1, r, l' ++ tx, by go_num, HRR.out, HP2.out, ⟨S2.out.pz, HWR.out.bl.trans S2.out.bl, HWR.out.kp.trans S2.out.kp⟩, by simpa using HE.out⟩
        case measure => simp [intOf]; omega
      · have e1 : l' ++ joinT (mapF τ (.cons h' k' r)) = l ++ joinC (mapF τ F) := by rw [← ht, if_neg h0]
        have e2 : (l' ++ [44, 32] ++ tx) ++ joinT (mapF τ r) = l ++ joinC (mapF τ F) := by
          rw [← e1, mapF, joinT, htx]; simp
        have hl2 : l'.length + 2 + tx.length ≤ lim := by
          have := congrArg List.length e2
          simp only [List.length_append, List.length_cons, List.length_nil] at this
          omega
        have HE := Lib.hid e2
        have hi3 : (0 : Int) < (i : Int) := by omega
        clear hr hr' hrw hk' p1 p2 hs ht h9 e1 e2 htx
        go_wp2_with (first
          | (go_at_call 115; refine (S2.out.prn HP3.out (by simp only [List.length_append]; show _ + 2 + _ ≤ _; omega)).mono ?_; rintro e w3 ⟨rfl, s3⟩; have S3 := Lib.hid s3; clear s3)
          | (go_at_call 52; refine (write1 S1.out ⟨#[44, 32]⟩ (by show _ + 2 ≤ _; omega) (by simp)).mono ?_; rintro e w2 ⟨rfl, s2⟩; have S2 := Lib.hid s2; obtain ⟨b0, b1, b2, b3, b4, b5, b6, b7, b8⟩ := (HBX.out.kp s2.kp).cells; clear s2))
        go_roundw
        case rel => exact ⟨i + 1, r, l' ++ [44, 32] ++ tx, by go_num, HRR.out, HP2.out, ⟨S3.out.pz, HWR.out.bl.trans S3.out.bl, HWR.out.kp.trans S3.out.kp⟩, by simpa using HE.out⟩
        case measure => simp [intOf]; omega
end Go.Proofs.YticbcnhbpbaocaaGreatDoor

namespace Go.Proofs.YticbcnhbpbaocaaGreatDoor
open Go.RowKit T T.Fo
set_option linter.all false

/-- The text of lines with d tabs. -/
def linF (d : Int) (τ : Hd → Fo → Bs) (F : Fo) : Bs := (mapF (fun h k => T.tabs d.toNat ++ τ h k ++ [10]) F).flatten
theorem linF_nil (d : Int) (τ : Hd → Fo → Bs) : linF d τ .nil = [] := rfl
theorem linF_cons (d : Int) (τ : Hd → Fo → Bs) (h : Hd) (k r : Fo) : linF d τ (.cons h k r) = T.tabs d.toNat ++ τ h k ++ [10] ++ linF d τ r := by
  simp [linF, mapF]
theorem Sn.trans {w1 W wr : World} {B b : Nat} {l l' : Bs} {d d' : Int} (h : Sn w1 B b l d W) (k : Sn W B b l' d' wr) : Sn w1 B b l' d' wr := ⟨k.pz, h.bl.trans k.bl, h.kp.trans k.kp⟩

set_option maxRecDepth 100000 in
set_option maxHeartbeats 4000000 in
theorem lines_71 {w1 W : World} {B b cap : Nat} {l : Bs} {d d1 : Int} {A : Option Addr} (F : Fo) (τ : Hd → Fo → Bs) (H : Sn w1 B b l d W) (hd : 0 ≤ d) (hd6 : d ≤ 60) (hd1 : d + 1 = d1) (hk : Kids (Lt B) W A F) (hP : F.All fun h k => PrnT 71 h k (τ h k) d1 B b w1) (hkk : ∀ A k, Kids (Lt B) W A k → Kids (Lt B) w1 A k) (hm : F.cnt ≤ 1048576)
    (hlen : l.length + (linF d1 τ F).length ≤ lim) :
    Calls Tryz.prog 94 #[pt b, .slice A F.len cap, .func (.func 71) #[pt b] #[]] W (Done w1 B b (l ++ linF d1 τ F) d) := by
  obtain ⟨m, hme⟩ : ∃ m, F.len = m := ⟨_, rfl⟩
  have hml : m ≤ 1048576 := by have := F.len_le_cnt; omega
  have HME := Lib.hid hme
  have HH := Lib.hid H
  have H1 := Lib.hid (H.setTabs d1)
  have S0 := Lib.hid (Sn.start H1.out.pz)
  have hk1 := hk.below (B' := B) (H.pz.setTabs d1).2.1 (Nat.le_refl _)
  have HR := Lib.hid (Rest.start hk1)
  have HP := Lib.hid hP
  have HKK : Hid (∀ A k, Kids (Lt B) (W.setCell ⟨b, 2, none⟩ (.int .i64 d1)) A k → Kids (Lt B) w1 A k) := Lib.hid fun A k h => hkk A k (h.carry fun b' hb => ⟨hb, ((H.pz.setTabs d1).2.1.block b' hb).symm⟩)
  obtain ⟨t2, f2, hbl⟩ := H.pz.tabs
  have HD1 := Lib.hid hd1
  rw [hme]
  clear H hk hk1 hP hkk hme
  go_enter Tryz.func94, Tryz.ntmps94
  go_upto_region 1 with (fail)
  go_wp2
  try rw [HD1.out]
  go_loopw [17] (fun ix wr => ∃ (i : Nat) (R : Fo) (l' : Bs), ix = .int .i64 (i : Int) ∧ Rest (Lt B) (W.setCell ⟨b, 2, none⟩ (.int .i64 d1)) A F i R ∧ (R.All fun h k => PrnT 71 h k (τ h k) d1 B b w1) ∧ Sn (W.setCell ⟨b, 2, none⟩ (.int .i64 d1)) B b l' d1 wr ∧ l' ++ linF d1 τ R = l ++ linF d1 τ F) (fun ix _ => m - (intOf ix).toNat)
  case atStart => exact ⟨0, F, l, rfl, HR.out, HP.out, S0.out, rfl⟩
  case round =>
    obtain ⟨i, R, l', rfl, hr, hp, hs, ht⟩ := hrel
    have HT := Lib.hid ht
    have HS := Lib.hid hs
    cases R with
    | nil =>
      have hi := hr.stop
      obtain rfl : i = m := by have := HME.out; omega
      have e : l' = l ++ linF d1 τ F := by
        rw [← ht, linF_nil]; simp
      have HE := Lib.hid e
      obtain ⟨t3, f3, hbl3⟩ := hs.pz.tabs
      have ed : d1 - 1 = d := by omega
      have HED := Lib.hid ed
      clear hr hp hs ht hi e ed t2 f2 hd1
      go_wp2
      go_end0
      refine ⟨rfl, ?_⟩
      rw [← HE.out]
      have h5 := (H1.out.trans HS.out).setTabs d
      first
        | exact h5
        | (have hd1' := HD1.out
           have ew : wrap64 (d1 - 1) = d := by unfold wrap64; omega
           rw [ew]; exact h5)
    | cons h' k' r =>
      obtain ⟨g, o, A', cap', rfl, h9, hkc, hk', hr', hi, hg⟩ := hr.next
      have hgB : g < B := hg
      obtain ⟨c0, c1, c2, c3, c4, c5, c6, c7, c8⟩ := h9.below hs.bl hgB
      have hrw := hr.tail
      have HRR := Lib.hid hrw
      obtain ⟨p1, p2⟩ := hp
      have HP2 := Lib.hid p2
      have HP1 := Lib.hid ((p1 A' cap' hkc (HKK.out A' k' hk')).mono (H1.out.bl.trans hs.bl))
      obtain ⟨tx, htx⟩ : ∃ tx, τ h' k' = tx := ⟨_, rfl⟩
      rw [htx] at HP1
      have HBX := Lib.hid (Nb.new wr h' A' k'.len cap')
      have S1 := Lib.hid (Sn.start (hs.pz.keep ((Below.refl wr.heap.size wr).alloc (Nat.le_refl _) (bx h' A' k'.len cap'))))
      have HWR := Lib.hid (hs.al (bx h' A' k'.len cap'))
      have HP3 := Lib.hid (HP1.out.mono (hs.pz.below1 (bx h' A' k'.len cap')))
      have him : i < m := by have := HME.out; omega
      have hi1 : (i : Int) < (m : Int) := by omega
      have hi2 : ¬ (m : Int) ≤ (i : Int) := by omega
      have e2 : (l' ++ T.tabs d1.toNat ++ tx ++ [10]) ++ linF d1 τ r = l ++ linF d1 τ F := by
        rw [← ht, linF_cons, htx]; simp
      have hl2 : l'.length + (T.tabs d1.toNat).length + tx.length + 1 ≤ lim := by
        have := congrArg List.length e2
        simp only [List.length_append, List.length_cons, List.length_nil] at this
        omega
      have HE := Lib.hid e2
      clear hr hr' hrw hk' p1 p2 hs ht h9 e2 htx t2 f2
      go_wp2_with (first
          | (go_at_call 52; refine (write1 S3.out ⟨#[10]⟩ (by simp only [List.length_append]; show _ + _ + _ + 1 ≤ _; omega) rfl).mono ?_; rintro e w4 ⟨rfl, s4⟩; have S4 := Lib.hid s4; clear s4)
          | (go_at_call 71; refine (S2.out.prn HP3.out (by simp only [List.length_append]; omega)).mono ?_; rintro e w3 ⟨rfl, s3⟩; have S3 := Lib.hid s3; clear s3)
          | (go_at_call 95; refine (indent_any S1.out (by omega) (by omega) (by omega)).mono ?_; rintro e w2 ⟨rfl, s2⟩; have S2 := Lib.hid s2; obtain ⟨b0, b1, b2, b3, b4, b5, b6, b7, b8⟩ := (HBX.out.kp s2.kp).cells; clear s2))
      go_roundw
      case rel => exact ⟨i + 1, r, l' ++ T.tabs d1.toNat ++ tx ++ [10], by go_num, HRR.out, HP2.out, ⟨S4.out.pz, HWR.out.bl.trans S4.out.bl, HWR.out.kp.trans S4.out.kp⟩, HE.out⟩
      case measure => simp [intOf]; omega

set_option maxRecDepth 100000 in
set_option maxHeartbeats 4000000 in
theorem braces_71 {w1 W : World} {B b cap : Nat} {l : Bs} {d d1 : Int} {A : Option Addr} (F : Fo) (τ : Hd → Fo → Bs) (H : Sn w1 B b l d W) (hd : 0 ≤ d) (hd6 : d ≤ 60) (hd1 : d + 1 = d1) (hk : Kids (Lt B) W A F) (hP : F.All fun h k => PrnT 71 h k (τ h k) d1 B b w1) (hkk : ∀ A k, Kids (Lt B) W A k → Kids (Lt B) w1 A k) (hm : F.cnt ≤ 1048576)
    (hlen : l.length + (blkS d.toNat (linF d1 τ F)).length ≤ lim) :
    Calls Tryz.prog 70 #[pt b, .slice A F.len cap, .func (.func 71) #[pt b] #[]] W (Done w1 B b (l ++ blkS d.toNat (linF d1 τ F)) d) := by
  obtain ⟨tx, htx⟩ : ∃ tx, linF d1 τ F = tx := ⟨_, rfl⟩
  have hl2 : l.length + 2 + tx.length + (T.tabs d.toNat).length + 1 ≤ lim := by
    have := hlen
    rw [htx] at this
    simp only [blkS, List.length_append, List.length_cons, List.length_nil] at this
    omega
  have HL : Hid (∀ l1 W1, Sn w1 B b l1 d W1 → Below B W W1 → l1.length + tx.length ≤ lim → Calls Tryz.prog 94 #[pt b, .slice A F.len cap, .func (.func 71) #[pt b] #[]] W1 (Done w1 B b (l1 ++ tx) d)) := Lib.hid fun l1 W1 s1 hb hl => by
    rw [← htx] at hl ⊢
    exact lines_71 F τ s1 hd hd6 hd1 (hk.below hb (Nat.le_refl _)) hP (fun A k h => hkk A k (h.carry fun b' hb' => ⟨hb', (hb.block b' hb').symm⟩)) hm hl
  have HH := Lib.hid H
  have SS := Lib.hid (Sn.start H.pz)
  have HM := Lib.hid hm
  obtain ⟨m, hme⟩ : ∃ m, F.len = m := ⟨_, rfl⟩
  rw [hme] at HL ⊢
  rw [htx]
  clear H hk hP hkk hm hlen htx hme
  go_enter Tryz.func70, Tryz.ntmps70
  go_wp2_with (first
    | (go_at_call 52; refine (write1 S4.out ⟨#[125]⟩ (by simp only [List.length_append]; show _ + 2 + _ + _ + 1 ≤ _; omega) rfl).mono ?_; rintro e w5 ⟨rfl, s5⟩; have S5 := Lib.hid s5; clear s5)
    | (go_at_call 95; refine (indent_any S3.out (by omega) (by omega) (by simp only [List.length_append]; show _ + 2 + _ + _ ≤ _; omega)).mono ?_; rintro e w4 ⟨rfl, s4⟩; have S4 := Lib.hid s4; clear s4)
    | (go_at_call 94; refine (HL.out _ _ S2.out HB2.out (by simp only [List.length_append]; show _ + 2 + _ ≤ _; omega)).mono ?_; rintro e w3 ⟨rfl, s3⟩; have S3 := Lib.hid s3; clear s3)
    | (go_at_call 52; refine (write1 SS.out ⟨#[123, 10]⟩ (by show _ + 2 ≤ _; omega) rfl).mono ?_; rintro e w2 ⟨rfl, s2⟩; have S2 := Lib.hid (HH.out.trans s2); have HB2 := Lib.hid s2.bl; clear s2))
  go_end0
  refine ⟨rfl, ?_⟩
  have e : l ++ blkS d.toNat tx = l ++ [123, 10] ++ tx ++ T.tabs d.toNat ++ [125] := by simp [blkS]
  rw [e]
  exact S5.out
end Go.Proofs.YticbcnhbpbaocaaGreatDoor

namespace Go.Proofs.YticbcnhbpbaocaaGreatDoor
open Go.RowKit T T.Fo
set_option linter.all false

set_option maxRecDepth 100000 in
set_option maxHeartbeats 4000000 in
theorem lines_116 {w1 W : World} {B b cap : Nat} {l : Bs} {d d1 : Int} {A : Option Addr} (F : Fo) (τ : Hd → Fo → Bs) (H : Sn w1 B b l d W) (hd : 0 ≤ d) (hd6 : d ≤ 60) (hd1 : d + 1 = d1) (hk : Kids (Lt B) W A F) (hP : F.All fun h k => PrnT 116 h k (τ h k) d1 B b w1) (hkk : ∀ A k, Kids (Lt B) W A k → Kids (Lt B) w1 A k) (hm : F.cnt ≤ 1048576)
    (hlen : l.length + (linF d1 τ F).length ≤ lim) :
    Calls Tryz.prog 94 #[pt b, .slice A F.len cap, .func (.func 116) #[pt b] #[]] W (Done w1 B b (l ++ linF d1 τ F) d) := by
  obtain ⟨m, hme⟩ : ∃ m, F.len = m := ⟨_, rfl⟩
  have hml : m ≤ 1048576 := by have := F.len_le_cnt; omega
  have HME := Lib.hid hme
  have HH := Lib.hid H
  have H1 := Lib.hid (H.setTabs d1)
  have S0 := Lib.hid (Sn.start H1.out.pz)
  have hk1 := hk.below (B' := B) (H.pz.setTabs d1).2.1 (Nat.le_refl _)
  have HR := Lib.hid (Rest.start hk1)
  have HP := Lib.hid hP
  have HKK : Hid (∀ A k, Kids (Lt B) (W.setCell ⟨b, 2, none⟩ (.int .i64 d1)) A k → Kids (Lt B) w1 A k) := Lib.hid fun A k h => hkk A k (h.carry fun b' hb => ⟨hb, ((H.pz.setTabs d1).2.1.block b' hb).symm⟩)
  obtain ⟨t2, f2, hbl⟩ := H.pz.tabs
  have HD1 := Lib.hid hd1
  rw [hme]
  clear H hk hk1 hP hkk hme
  go_enter Tryz.func94, Tryz.ntmps94
  go_upto_region 1 with (fail)
  go_wp2
  try rw [HD1.out]
  go_loopw [17] (fun ix wr => ∃ (i : Nat) (R : Fo) (l' : Bs), ix = .int .i64 (i : Int) ∧ Rest (Lt B) (W.setCell ⟨b, 2, none⟩ (.int .i64 d1)) A F i R ∧ (R.All fun h k => PrnT 116 h k (τ h k) d1 B b w1) ∧ Sn (W.setCell ⟨b, 2, none⟩ (.int .i64 d1)) B b l' d1 wr ∧ l' ++ linF d1 τ R = l ++ linF d1 τ F) (fun ix _ => m - (intOf ix).toNat)
  case atStart => exact ⟨0, F, l, rfl, HR.out, HP.out, S0.out, rfl⟩
  case round =>
    obtain ⟨i, R, l', rfl, hr, hp, hs, ht⟩ := hrel
    have HT := Lib.hid ht
    have HS := Lib.hid hs
    cases R with
    | nil =>
      have hi := hr.stop
      obtain rfl : i = m := by have := HME.out; omega
      have e : l' = l ++ linF d1 τ F := by
        rw [← ht, linF_nil]; simp
      have HE := Lib.hid e
      obtain ⟨t3, f3, hbl3⟩ := hs.pz.tabs
      have ed : d1 - 1 = d := by omega
      have HED := Lib.hid ed
      clear hr hp hs ht hi e ed t2 f2 hd1
      go_wp2
      go_end0
      refine ⟨rfl, ?_⟩
      rw [← HE.out]
      have h5 := (H1.out.trans HS.out).setTabs d
      first
        | exact h5
        | (have hd1' := HD1.out
           have ew : wrap64 (d1 - 1) = d := by unfold wrap64; omega
           rw [ew]; exact h5)
    | cons h' k' r =>
      obtain ⟨g, o, A', cap', rfl, h9, hkc, hk', hr', hi, hg⟩ := hr.next
      have hgB : g < B := hg
      obtain ⟨c0, c1, c2, c3, c4, c5, c6, c7, c8⟩ := h9.below hs.bl hgB
      have hrw := hr.tail
      have HRR := Lib.hid hrw
      obtain ⟨p1, p2⟩ := hp
      have HP2 := Lib.hid p2
      have HP1 := Lib.hid ((p1 A' cap' hkc (HKK.out A' k' hk')).mono (H1.out.bl.trans hs.bl))
      obtain ⟨tx, htx⟩ : ∃ tx, τ h' k' = tx := ⟨_, rfl⟩
      rw [htx] at HP1
      have HBX := Lib.hid (Nb.new wr h' A' k'.len cap')
      have S1 := Lib.hid (Sn.start (hs.pz.keep ((Below.refl wr.heap.size wr).alloc (Nat.le_refl _) (bx h' A' k'.len cap'))))
      have HWR := Lib.hid (hs.al (bx h' A' k'.len cap'))
      have HP3 := Lib.hid (HP1.out.mono (hs.pz.below1 (bx h' A' k'.len cap')))
      have him : i < m := by have := HME.out; omega
      have hi1 : (i : Int) < (m : Int) := by omega
      have hi2 : ¬ (m : Int) ≤ (i : Int) := by omega
      have e2 : (l' ++ T.tabs d1.toNat ++ tx ++ [10]) ++ linF d1 τ r = l ++ linF d1 τ F := by
        rw [← ht, linF_cons, htx]; simp
      have hl2 : l'.length + (T.tabs d1.toNat).length + tx.length + 1 ≤ lim := by
        have := congrArg List.length e2
        simp only [List.length_append, List.length_cons, List.length_nil] at this
        omega
      have HE := Lib.hid e2
      clear hr hr' hrw hk' p1 p2 hs ht h9 e2 htx t2 f2
      go_wp2_with (first
          | (go_at_call 52; refine (write1 S3.out ⟨#[10]⟩ (by simp only [List.length_append]; show _ + _ + _ + 1 ≤ _; omega) rfl).mono ?_; rintro e w4 ⟨rfl, s4⟩; have S4 := Lib.hid s4; clear s4)
          | (go_at_call 116; refine (S2.out.prn HP3.out (by simp only [List.length_append]; omega)).mono ?_; rintro e w3 ⟨rfl, s3⟩; have S3 := Lib.hid s3; clear s3)
          | (go_at_call 95; refine (indent_any S1.out (by omega) (by omega) (by omega)).mono ?_; rintro e w2 ⟨rfl, s2⟩; have S2 := Lib.hid s2; obtain ⟨b0, b1, b2, b3, b4, b5, b6, b7, b8⟩ := (HBX.out.kp s2.kp).cells; clear s2))
      go_roundw
      case rel => exact ⟨i + 1, r, l' ++ T.tabs d1.toNat ++ tx ++ [10], by go_num, HRR.out, HP2.out, ⟨S4.out.pz, HWR.out.bl.trans S4.out.bl, HWR.out.kp.trans S4.out.kp⟩, HE.out⟩
      case measure => simp [intOf]; omega

set_option maxRecDepth 100000 in
set_option maxHeartbeats 4000000 in
theorem braces_116 {w1 W : World} {B b cap : Nat} {l : Bs} {d d1 : Int} {A : Option Addr} (F : Fo) (τ : Hd → Fo → Bs) (H : Sn w1 B b l d W) (hd : 0 ≤ d) (hd6 : d ≤ 60) (hd1 : d + 1 = d1) (hk : Kids (Lt B) W A F) (hP : F.All fun h k => PrnT 116 h k (τ h k) d1 B b w1) (hkk : ∀ A k, Kids (Lt B) W A k → Kids (Lt B) w1 A k) (hm : F.cnt ≤ 1048576)
    (hlen : l.length + (blkS d.toNat (linF d1 τ F)).length ≤ lim) :
    Calls Tryz.prog 70 #[pt b, .slice A F.len cap, .func (.func 116) #[pt b] #[]] W (Done w1 B b (l ++ blkS d.toNat (linF d1 τ F)) d) := by
  obtain ⟨tx, htx⟩ : ∃ tx, linF d1 τ F = tx := ⟨_, rfl⟩
  have hl2 : l.length + 2 + tx.length + (T.tabs d.toNat).length + 1 ≤ lim := by
    have := hlen
    rw [htx] at this
    simp only [blkS, List.length_append, List.length_cons, List.length_nil] at this
    omega
  have HL : Hid (∀ l1 W1, Sn w1 B b l1 d W1 → Below B W W1 → l1.length + tx.length ≤ lim → Calls Tryz.prog 94 #[pt b, .slice A F.len cap, .func (.func 116) #[pt b] #[]] W1 (Done w1 B b (l1 ++ tx) d)) := Lib.hid fun l1 W1 s1 hb hl => by
    rw [← htx] at hl ⊢
    exact lines_116 F τ s1 hd hd6 hd1 (hk.below hb (Nat.le_refl _)) hP (fun A k h => hkk A k (h.carry fun b' hb' => ⟨hb', (hb.block b' hb').symm⟩)) hm hl
  have HH := Lib.hid H
  have SS := Lib.hid (Sn.start H.pz)
  have HM := Lib.hid hm
  obtain ⟨m, hme⟩ : ∃ m, F.len = m := ⟨_, rfl⟩
  rw [hme] at HL ⊢
  rw [htx]
  clear H hk hP hkk hm hlen htx hme
  go_enter Tryz.func70, Tryz.ntmps70
  go_wp2_with (first
    | (go_at_call 52; refine (write1 S4.out ⟨#[125]⟩ (by simp only [List.length_append]; show _ + 2 + _ + _ + 1 ≤ _; omega) rfl).mono ?_; rintro e w5 ⟨rfl, s5⟩; have S5 := Lib.hid s5; clear s5)
    | (go_at_call 95; refine (indent_any S3.out (by omega) (by omega) (by simp only [List.length_append]; show _ + 2 + _ + _ ≤ _; omega)).mono ?_; rintro e w4 ⟨rfl, s4⟩; have S4 := Lib.hid s4; clear s4)
    | (go_at_call 94; refine (HL.out _ _ S2.out HB2.out (by simp only [List.length_append]; show _ + 2 + _ ≤ _; omega)).mono ?_; rintro e w3 ⟨rfl, s3⟩; have S3 := Lib.hid s3; clear s3)
    | (go_at_call 52; refine (write1 SS.out ⟨#[123, 10]⟩ (by show _ + 2 ≤ _; omega) rfl).mono ?_; rintro e w2 ⟨rfl, s2⟩; have S2 := Lib.hid (HH.out.trans s2); have HB2 := Lib.hid s2.bl; clear s2))
  go_end0
  refine ⟨rfl, ?_⟩
  have e : l ++ blkS d.toNat tx = l ++ [123, 10] ++ tx ++ T.tabs d.toNat ++ [125] := by simp [blkS]
  rw [e]
  exact S5.out
end Go.Proofs.YticbcnhbpbaocaaGreatDoor

namespace Go.Proofs.YticbcnhbpbaocaaGreatDoor
open Go.RowKit T T.Fo
set_option linter.all false

theorem kids_back {B : Nat} {W W1 : World} {A : Option Addr} {k : Fo} (h : Kids (Lt B) W1 A k) (hb : Below B W W1) : Kids (Lt B) W A k := h.carry fun b' hb' => ⟨hb', (hb.block b' hb').symm⟩
theorem PrnT.mv {f : FuncId} {h : Hd} {k : Fo} {t : Bs} {d : Int} {B b : Nat} {W W1 : World} (H : PrnT f h k t d B b W) (hb : Below B W W1) : PrnT f h k t d B b W1 := H.mono hb fun A h => kids_back h hb
theorem all_imp {P Q : Hd → Fo → Prop} (H : ∀ h k, P h k → Q h k) : ∀ {F : Fo}, F.All P → F.All Q
  | .nil, _ => trivial
  | .cons h k r, ⟨h1, h2⟩ => ⟨H h k h1, all_imp H h2⟩

set_option maxRecDepth 100000 in
set_option maxHeartbeats 4000000 in
theorem block_any {W : World} {B b : Nat} {d d1 : Int} (h : Hd) (F : Fo) (τ : Hd → Fo → Bs) (hd : 0 ≤ d) (hd6 : d ≤ 60) (hd1 : d + 1 = d1) (hP : F.All fun h k => PrnT 116 h k (τ h k) d1 B b W) (hm : F.cnt ≤ 1048576) :
    PrnT 99 h F (blkS d.toNat (linF d1 τ F)) d B b W := by
  intro A cap hcap hk l w hp hb hlen
  have HW := Lib.hid (hp.below1 (bx h A F.len cap))
  have HKW := Lib.hid (Kp.alloc w (bx h A F.len cap))
  have S1 := Lib.hid (hp.fresh (bx h A F.len cap))
  have HC := Lib.hid (braces_116 (cap := cap) F τ S1.out hd hd6 hd1 (hk.below (hb.trans HW.out) (Nat.le_refl _)) (all_imp (fun h k hh => hh.mv (hb.trans HW.out)) hP) (fun _ _ h => h) hm hlen)
  obtain ⟨m, hme⟩ : ∃ m, F.len = m := ⟨_, rfl⟩
  obtain ⟨tx, htx⟩ : ∃ tx, blkS d.toNat (linF d1 τ F) = tx := ⟨_, rfl⟩
  rw [hme] at HC ⊢
  rw [htx] at HC ⊢
  rw [hme] at HW HKW S1
  clear hk hP hp hb hlen hm hme htx hcap hd1
  go_enter Tryz.func99, Tryz.ntmps99
  go_wp2_with (go_at_call 70; refine HC.out.mono ?_; rintro e w2 ⟨rfl, s2⟩; have S2 := Lib.hid s2; clear s2)
  go_end0
  exact S2.out.done HW.out HKW.out rfl

set_option maxRecDepth 100000 in
set_option maxHeartbeats 4000000 in
theorem field_any {W : World} {B b : Nat} {d : Int} (h h0 : Hd) (k0 : Fo) (hm : h0.text.size ≤ 20000) :
    PrnT 71 h (.cons h0 k0 .nil) (h.text.data.toList ++ [32] ++ typeS h0) d B b W := by
  intro A cap hcap hk
  show Prn 71 (nv h A 1 cap) (h.text.data.toList ++ [32] ++ typeS h0) d B b W
  intro l w hp hb hlen
  obtain ⟨g, o, A0, c0, rfl, hg, h90, hc0, hk0, hl0⟩ := kid1 hk
  have HW := Lib.hid (hp.below1 (bx h (some ⟨g, o, none⟩) 1 cap))
  have HKW := Lib.hid (Kp.alloc w (bx h (some ⟨g, o, none⟩) 1 cap))
  have S1 := Lib.hid (hp.fresh (bx h (some ⟨g, o, none⟩) 1 cap))
  have HB := Lib.hid (Nb.new w h (some ⟨g, o, none⟩) 1 cap)
  have HK0 := Lib.hid (h90.below (hb.trans HW.out) hg)
  obtain ⟨s, hs⟩ : ∃ s : ByteArray, s = ⟨(typeS h0).toArray⟩ := ⟨_, rfl⟩
  have e1 : typeS h0 = s.data.toList := by rw [hs]
  have HT : Hid (Calls Tryz.prog 96 #[nv h0 A0 k0.len c0] (w.alloc (bx h (some ⟨g, o, none⟩) 1 cap)).drew fun e w' => e = .returned (.string s) ∧ Sn (w.alloc (bx h (some ⟨g, o, none⟩) 1 cap)) B b l d w') := Lib.hid ((typeText_any h0 A0 k0.len c0 _ hm).mono fun e w' hq => ⟨by rw [hq.1, hs], S1.out.dr.keep hq.2⟩)
  rw [e1] at hlen ⊢
  simp only [List.length_append, List.length_cons, List.length_nil, len_toList] at hlen
  clear hk hcap hp hb h90 hc0 hk0 hl0 hs e1
  obtain ⟨q00, q01, q02, q03, q04, q05, q06, q07, q08⟩ := HK0.out
  go_enter Tryz.func71, Tryz.ntmps71
  go_wp2
  go_region_law ((go_simp; first
    | (go_at_call 52; refine (write3 S2.out h.text ⟨#[32]⟩ s (by (try simp only [List.length_append, List.length_cons, List.length_nil, len_toList]); omega) (by first | rfl | simp)).mono ?_; rintro e w3 ⟨rfl, s3⟩; have S3 := Lib.hid s3; clear s3)
    | (go_at_call 96; refine HT.out.mono ?_; rintro e w2 ⟨rfl, s2⟩; have S2 := Lib.hid s2; obtain ⟨b0, b1, b2, b3, b4, b5, b6, b7, b8⟩ := (HB.out.kp s2.kp).cells; obtain ⟨r0, r1, r2, r3, r4, r5, r6, r7, r8⟩ := HK0.out.below s2.bl hg; clear s2)))
  all_goals
    go_wp2
    go_end0
    exact S3.out.done HW.out HKW.out (by simp [List.append_assoc])
end Go.Proofs.YticbcnhbpbaocaaGreatDoor
