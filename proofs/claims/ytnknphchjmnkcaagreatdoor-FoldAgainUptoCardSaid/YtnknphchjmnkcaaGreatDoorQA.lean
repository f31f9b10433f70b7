/-
  The walks of permitted and Valid.
  The walk of Valid.
-/
import Derived.Test.YtnknphchjmnkcaaGreatDoorPE
import Derived.Test.YtnknphchjmnkcaaGreatDoorTB
import Derived.Test.YtnknphchjmnkcaaGreatDoorTA

set_option linter.all false
namespace Go.Proofs.YtnknphchjmnkcaaGreatDoor
open Go.RowKit T T.Fo

/-- permitted's contract at a tree. -/
def PermP (h : Hd) (F : Fo) : Prop := ∀ (A : Option Addr) (cap : Nat) (w : World) (d : Int), Glob w → Kids (Lt w.heap.size) w A F → numIx h → F.AllH numIx → 0 ≤ d → d ≤ 50 → F.cnt ≤ 1048576 →
    Calls Tryz.prog 65 #[nv h A F.len cap, .int .i64 d] w fun e w' => e = .returned (.bool (permT nm h F d.toNat)) ∧ Below w.heap.size w w'

theorem permT_zero (h : Hd) (F : Fo) : permT nm h F 0 = false := rfl
theorem permT_no {h : Hd} {F : Fo} {d : Nat} (H : textFits nm h = false ∨ numFits h = false ∨ childrenFit h F = false) : permT nm h F d = false := by
  unfold permT; rcases H with H | H | H <;> simp [H]
theorem permT_yes {h : Hd} {F : Fo} {d : Nat} (hd : d ≠ 0) (h1 : textFits nm h = true) (h2 : numFits h = true) (h3 : childrenFit h F = true) : permT nm h F d = permF nm F (d - 1) := by
  unfold permT; simp [h1, h2, h3, hd]

set_option maxRecDepth 100000 in
set_option maxHeartbeats 4000000 in
theorem perm_any (h : Hd) (F : Fo) : PermP h F := by
  refine Fo.ind (P := PermP) ?_ h F
  clear h F
  intro h F ih A cap w d hG hk hn hF h0 h50 hm
  have hlen : F.len ≤ F.cnt := F.len_le_cnt
  have hfl : F.len ≤ 1048576 := by omega
  obtain ⟨bt, hbt⟩ : ∃ b, textFits nm h = b := ⟨_, rfl⟩
  obtain ⟨bn, hbn⟩ : ∃ b, numFits h = b := ⟨_, rfl⟩
  obtain ⟨bc, hbc⟩ : ∃ b, childrenFit h F = b := ⟨_, rfl⟩
  have HT : Hid (∀ W, Below w.heap.size w W → Nb W w.heap.size h A F.len cap → Calls Tryz.prog 92 #[nv h A F.len cap] W fun e w' => e = .returned (.bool bt) ∧ Below w.heap.size w w' ∧ Nb w' w.heap.size h A F.len cap) := Lib.hid fun W hW hN => by
    rw [← hbt]; exact (textFits_any h A F.len cap W hn.2 (glob_below hG hW)).mono fun e w' hq => ⟨hq.1, hW.trans (hq.2.mono hW.size), hN.below hq.2⟩
  have HN : Hid (∀ W, Below w.heap.size w W → Nb W w.heap.size h A F.len cap → Calls Tryz.prog 93 #[nv h A F.len cap] W fun e w' => e = .returned (.bool bn) ∧ Below w.heap.size w w' ∧ Nb w' w.heap.size h A F.len cap) := Lib.hid fun W hW hN => by
    rw [← hbn]; exact (numFits_any h A F.len cap W).mono fun e w' hq => ⟨hq.1, hW.trans (hq.2.mono hW.size), hN.below hq.2⟩
  have HC : Hid (∀ W, Below w.heap.size w W → Nb W w.heap.size h A F.len cap → Calls Tryz.prog 94 #[nv h A F.len cap] W fun e w' => e = .returned (.bool bc) ∧ Below w.heap.size w w' ∧ Nb w' w.heap.size h A F.len cap) := Lib.hid fun W hW hN => by
    rw [← hbc]; exact (childrenFit_any h F A cap W ((hk.below hW (Nat.le_refl _)).mono hW.size) hm).mono fun e w' hq => ⟨hq.1, hW.trans (hq.2.mono hW.size), hN.below hq.2⟩
  have HB := Lib.hid hbt
  have HBN := Lib.hid hbn
  have HBC := Lib.hid hbc
  have HI := Lib.hid ih
  have HG := Lib.hid hG
  have HR := Lib.hid (Rest.start hk)
  have HA := Lib.hid hF
  have H0 : Hid (Below w.heap.size w (w.alloc (.cells #[.int .i64 h.kind, .string h.text, .int .i64 h.num, .int .i64 h.pos, .slice A F.len cap, .int .i64 h.tk, .string h.tn, .int .i64 h.ref, .int .i64 h.up] 26))) := (Below.refl _ _).alloc (Nat.le_refl _) _
  have HNB := Lib.hid (Nb.new w h A F.len cap)
  clear ih hk hF hG hbt hbn hbc hn
  by_cases hd : d = 0
  · subst hd
    go_enter Tryz.func65, Tryz.ntmps65
    go_wp2
    go_ret
    exact ⟨rfl, H0.out⟩
  have hd1 : (d == 0) = false := by simpa using hd
  have hdt : d.toNat ≠ 0 := by omega
  cases bt
  · go_enter Tryz.func65, Tryz.ntmps65
    go_wp2_with (go_at_call 92; refine (HT.out _ H0.out HNB.out).mono ?_; rintro e w1 ⟨rfl, hb1, hn1⟩; have HB1 := Lib.hid hb1; obtain ⟨c0, c1, c2, c3, c4, c5, c6, c7, c8⟩ := hn1.cells; have HN1 := Lib.hid hn1; clear hb1 hn1)
    go_ret
    exact ⟨ret_bool (permT_no (.inl HB.out)).symm, HB1.out⟩
  cases bn
  · go_enter Tryz.func65, Tryz.ntmps65
    go_wp2_with (first
      | (go_at_call 92; refine (HT.out _ H0.out HNB.out).mono ?_; rintro e w1 ⟨rfl, hb1, hn1⟩; have HB1 := Lib.hid hb1; obtain ⟨c0, c1, c2, c3, c4, c5, c6, c7, c8⟩ := hn1.cells; have HN1 := Lib.hid hn1; clear hb1 hn1)
      | (go_at_call 93; refine (HN.out _ HB1.out HN1.out).mono ?_; rintro e w2 ⟨rfl, hb2, hn2⟩; have HB2 := Lib.hid hb2; obtain ⟨d0, d1, d2, d3, d4, d5, d6, d7, d8⟩ := hn2.cells; have HN2 := Lib.hid hn2; clear hb2 hn2))
    go_ret
    exact ⟨ret_bool (permT_no (.inr (.inl HBN.out))).symm, HB2.out⟩
  cases bc
  · go_enter Tryz.func65, Tryz.ntmps65
    go_wp2_with (first
      | (go_at_call 92; refine (HT.out _ H0.out HNB.out).mono ?_; rintro e w1 ⟨rfl, hb1, hn1⟩; have HB1 := Lib.hid hb1; obtain ⟨c0, c1, c2, c3, c4, c5, c6, c7, c8⟩ := hn1.cells; have HN1 := Lib.hid hn1; clear hb1 hn1)
      | (go_at_call 93; refine (HN.out _ HB1.out HN1.out).mono ?_; rintro e w2 ⟨rfl, hb2, hn2⟩; have HB2 := Lib.hid hb2; obtain ⟨d0, d1, d2, d3, d4, d5, d6, d7, d8⟩ := hn2.cells; have HN2 := Lib.hid hn2; clear hb2 hn2)
      | (go_at_call 94; refine (HC.out _ HB2.out HN2.out).mono ?_; rintro e w3 ⟨rfl, hb3, hn3⟩; have HB3 := Lib.hid hb3; obtain ⟨e0, e1, e2, e3, e4, e5, e6, e7, e8⟩ := hn3.cells; have HN3 := Lib.hid hn3; clear hb3 hn3))
    go_ret
    exact ⟨ret_bool (permT_no (.inr (.inr HBC.out))).symm, HB3.out⟩
  have HQ := Lib.hid (permT_yes (d := d.toNat) hdt HB.out HBN.out HBC.out)
  go_enter Tryz.func65, Tryz.ntmps65
  go_wp2_with (first
      | (go_at_call 92; refine (HT.out _ H0.out HNB.out).mono ?_; rintro e w1 ⟨rfl, hb1, hn1⟩; have HB1 := Lib.hid hb1; obtain ⟨c0, c1, c2, c3, c4, c5, c6, c7, c8⟩ := hn1.cells; have HN1 := Lib.hid hn1; clear hb1 hn1)
      | (go_at_call 93; refine (HN.out _ HB1.out HN1.out).mono ?_; rintro e w2 ⟨rfl, hb2, hn2⟩; have HB2 := Lib.hid hb2; obtain ⟨d0, d1, d2, d3, d4, d5, d6, d7, d8⟩ := hn2.cells; have HN2 := Lib.hid hn2; clear hb2 hn2)
      | (go_at_call 94; refine (HC.out _ HB2.out HN2.out).mono ?_; rintro e w3 ⟨rfl, hb3, hn3⟩; have HB3 := Lib.hid hb3; obtain ⟨e0, e1, e2, e3, e4, e5, e6, e7, e8⟩ := hn3.cells; have HN3 := Lib.hid hn3; clear hb3 hn3))
  go_loopw [27] (fun ix wr => ∃ (i : Nat) (R : Fo), ix = .int .i64 (i : Int) ∧ Rest (Lt w.heap.size) w A F i R ∧ R.All PermP ∧ R.AllH numIx ∧ permF nm F (d.toNat - 1) = permF nm R (d.toNat - 1) ∧ R.cnt ≤ F.cnt ∧ Below w.heap.size w wr) (fun ix _ => F.len - (intOf ix).toNat)
  case atStart => exact ⟨0, F, rfl, HR.out, HI.out, HA.out, rfl, Nat.le_refl _, HB3.out⟩
  case round =>
    obtain ⟨i, R, rfl, hr, hP, hA, hp, hcn, hb⟩ := hrel
    have HBB := Lib.hid hb
    have HP := Lib.hid hp
    cases R with
    | nil =>
      have hi := hr.stop
      subst hi
      clear hr hP hA hp hb
      go_wp2
      go_ret
      exact ⟨ret_bool (by rw [HQ.out, HP.out]; rfl), HBB.out⟩
    | cons h' k' r =>
      obtain ⟨g, o, A', cap', rfl, ⟨c0, c1, c2, c3, c4, c5, c6, c7, c8⟩, hkc, hk', hr', hi, hg⟩ := (hr.below hb (Nat.le_refl _)).next
      have hrw := hr.tail
      have HRR := Lib.hid hrw
      obtain ⟨p1, p2⟩ := hP
      have HP2 := Lib.hid p2
      obtain ⟨a1, a2, a3⟩ := hA
      have HA3 := Lib.hid a3
      simp only [Fo.cnt] at hcn
      have hkc2 : k'.cnt ≤ 1048576 := by omega
      obtain ⟨bk, hbk⟩ : ∃ b, permT nm h' k' (d - 1).toNat = b := ⟨_, rfl⟩
      have hzz := hb.size
      have HP1 : Hid (∀ W, Below wr.heap.size wr W → Calls Tryz.prog 65 #[nv h' A' k'.len cap', .int .i64 (d - 1)] W fun e w' => e = .returned (.bool bk) ∧ Below w.heap.size w w') := Lib.hid fun W hW => by
        rw [← hbk]
        have hbw := hb.trans (hW.mono hzz)
        exact (p1 A' cap' W (d - 1) (glob_below HG.out hbw) ((hk'.below hW hzz).mono hbw.size) a1 a2 (by omega) (by omega) hkc2).mono fun e w' hq => ⟨hq.1, hbw.trans (hq.2.mono hbw.size)⟩
      have HBK : Hid (permT nm h' k' (d.toNat - 1) = bk) := by
        have e : (d - 1).toNat = d.toNat - 1 := by omega
        rw [← e]; exact hbk
      have hi1 : (i : Int) < (F.len : Int) := by omega
      have HW0 : Hid (Below wr.heap.size wr (wr.alloc (.cells #[.int .i64 h'.kind, .string h'.text, .int .i64 h'.num, .int .i64 h'.pos, .slice A' k'.len cap', .int .i64 h'.tk, .string h'.tn, .int .i64 h'.ref, .int .i64 h'.up] 26))) := (Below.refl _ _).alloc (Nat.le_refl _) _
      clear hr hr' hrw hk' p1 p2 a1 a2 a3 hb hbk hp
      cases bk
      · go_wp2_with (go_at_call 65; refine (HP1.out _ HW0.out).mono ?_; rintro e w2 ⟨rfl, hb2⟩)
        go_ret
        exact ⟨ret_bool (by rw [HQ.out, HP.out, permF_cons, HBK.out]; rfl), hb2⟩
      · go_wp2_with (go_at_call 65; refine (HP1.out _ HW0.out).mono ?_; rintro e w2 ⟨rfl, hb2⟩; have HB4 := Lib.hid hb2; clear hb2)
        go_roundw
        case rel => exact ⟨i + 1, r, by go_num, HRR.out, HP2.out, HA3.out, by rw [HP.out, permF_cons, HBK.out]; rfl, by omega, HB4.out⟩
        case measure => simp [intOf]; omega

end Go.Proofs.YtnknphchjmnkcaaGreatDoor

namespace Go.Proofs.YtnknphchjmnkcaaGreatDoor
open Go.RowKit T T.Fo

theorem valid_yes {h : Hd} {F : Fo} (h2 : (h.kind == 1) = true) : permT nm h F (50 : Int).toNat = validT nm h F := by
  have e : (50 : Int).toNat = 50 := by decide
  rw [e]; unfold validT; rw [h2, Bool.true_and]
theorem valid_no {h : Hd} {F : Fo} (h2 : (h.kind == 1) = false) : false = validT nm h F := by
  unfold validT; rw [h2, Bool.false_and]
set_option maxRecDepth 100000 in
set_option maxHeartbeats 4000000 in
theorem valid_any (h : Hd) (F : Fo) (A : Option Addr) (cap : Nat) (w : World) (hG : Glob w) (hk : Kids (Lt w.heap.size) w A F) (hn : numIx h) (hF : F.AllH numIx) (hm : F.cnt ≤ 1048576) :
    Calls Tryz.prog 38 #[nv h A F.len cap] w fun e w' => e = .returned (.bool (validT nm h F)) ∧ Below w.heap.size w w' := by
  obtain ⟨bv, hbv⟩ : ∃ b, permT nm h F (50 : Int).toNat = b := ⟨_, rfl⟩
  have HP : Hid (∀ W, Below w.heap.size w W → Calls Tryz.prog 65 #[nv h A F.len cap, .int .i64 50] W fun e w' => e = .returned (.bool bv) ∧ Below w.heap.size w w') := Lib.hid fun W hW => by
    rw [← hbv]; exact (perm_any h F A cap W 50 (glob_below hG hW) ((hk.below hW (Nat.le_refl _)).mono hW.size) hn hF (by omega) (by omega) hm).mono fun e w' hq => ⟨hq.1, hW.trans (hq.2.mono hW.size)⟩
  have H0 : Hid (Below w.heap.size w (w.alloc (.cells #[.int .i64 h.kind, .string h.text, .int .i64 h.num, .int .i64 h.pos, .slice A F.len cap, .int .i64 h.tk, .string h.tn, .int .i64 h.ref, .int .i64 h.up] 26))) := (Below.refl _ _).alloc (Nat.le_refl _) _
  have HN0 := Lib.hid hn
  have HF0 := Lib.hid hF
  clear hG hk hn hF
  by_cases h1 : h.kind = 1
  · have h2 : (h.kind == 1) = true := by simpa using h1
    have HV : Hid (bv = validT nm h F) := Lib.hid (hbv ▸ valid_yes h2)
    clear hbv h1
    go_enter Tryz.func38, Tryz.ntmps38
    go_wp2_with (go_at_call 65; refine (HP.out _ H0.out).mono ?_; rintro e w1 ⟨rfl, hb1⟩)
    go_ret
    exact ⟨ret_bool HV.out, hb1⟩
  · have h2 : (h.kind == 1) = false := by simpa using h1
    have HV : Hid (false = validT nm h F) := Lib.hid (valid_no h2)
    go_enter Tryz.func38, Tryz.ntmps38
    go_wp2
    go_ret
    exact ⟨ret_bool HV.out, H0.out⟩
end Go.Proofs.YtnknphchjmnkcaaGreatDoor

