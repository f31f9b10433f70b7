/-
  The walks of permitted and Valid.
  The walk of Valid.
  The walks of strings.Builder's copyCheck, WriteString and String inside a printer.
  The walk of strings.Builder's String inside a printer.
  The walks of strings.Repeat at a tab, typeText.
  What stands between the calls of a printer; the walks of write and indent.
  The walks of indent, around, enclosed, operand, primary, between.
  The walks of around, enclosed, operand, primary.
  The walks of enclosed, operand, primary, between.
-/
import Derived.Test.YticbcnhbpbaocaaGreatDoorPE
import Derived.Test.YticbcnhbpbaocaaGreatDoorTB
import Derived.Test.YticbcnhbpbaocaaGreatDoorTA
import Derived.Lib.Builder
import Derived.Lib.AppendStr
import Derived.Laws.Externs
import Derived.Lib.UnsafeStr
import Derived.Lib.AppendIntMem

set_option linter.all false
namespace Go.Proofs.YticbcnhbpbaocaaGreatDoor
open Go.RowKit T T.Fo

/-- permitted's contract at a tree. -/
def PermP (h : Hd) (F : Fo) : Prop := ∀ (A : Option Addr) (cap : Nat) (w : World) (d : Int), Glob w → Kids (Lt w.heap.size) w A F → numIx h → F.AllH numIx → 0 ≤ d → d ≤ 50 → F.cnt ≤ 1048576 →
    Calls Tryz.prog 28 #[nv h A F.len cap, .int .i64 d] w fun e w' => e = .returned (.bool (permT nm h F d.toNat)) ∧ Below w.heap.size w w'

theorem permT_zero (h : Hd) (F : Fo) : permT nm h F 0 = false := rfl
theorem permT_no {h : Hd} {F : Fo} {d : Nat} (H : textFits nm h = false ∨ numFits h = false ∨ childrenFit h F = false) : permT nm h F d = false := by
  unfold permT; rcases H with H | H | H <;> simp [H]
theorem permT_yes {h : Hd} {F : Fo} {d : Nat} (hd : d ≠ 0) (h1 : textFits nm h = true) (h2 : numFits h = true) (h3 : childrenFit h F = true) : permT nm h F d = permF nm F (d - 1) := by
  unfold permT; simp [h1, h2, h3, hd]

set_option maxRecDepth 100000 in
set_option maxHeartbeats 4000000 in
theorem perm_any (h : Hd) (F : Fo) : PermP h F := by
  refine Fo.ind (P := PermP) ?_ h F
  clear h F
  intro h F ih A cap w d hG hk hn hF h0 h50 hm
  have hlen : F.len ≤ F.cnt := F.len_le_cnt
  have hfl : F.len ≤ 1048576 := by omega
  obtain ⟨bt, hbt⟩ : ∃ b, textFits nm h = b := ⟨_, rfl⟩
  obtain ⟨bn, hbn⟩ : ∃ b, numFits h = b := ⟨_, rfl⟩
  obtain ⟨bc, hbc⟩ : ∃ b, childrenFit h F = b := ⟨_, rfl⟩
  have HT : Hid (∀ W, Below w.heap.size w W → Nb W w.heap.size h A F.len cap → Calls Tryz.prog 42 #[nv h A F.len cap] W fun e w' => e = .returned (.bool bt) ∧ Below w.heap.size w w' ∧ Nb w' w.heap.size h A F.len cap) := Lib.hid fun W hW hN => by
    rw [← hbt]; exact (textFits_any h A F.len cap W hn.2 (glob_below hG hW)).mono fun e w' hq => ⟨hq.1, hW.trans (hq.2.mono hW.size), hN.below hq.2⟩
  have HN : Hid (∀ W, Below w.heap.size w W → Nb W w.heap.size h A F.len cap → Calls Tryz.prog 43 #[nv h A F.len cap] W fun e w' => e = .returned (.bool bn) ∧ Below w.heap.size w w' ∧ Nb w' w.heap.size h A F.len cap) := Lib.hid fun W hW hN => by
    rw [← hbn]; exact (numFits_any h A F.len cap W).mono fun e w' hq => ⟨hq.1, hW.trans (hq.2.mono hW.size), hN.below hq.2⟩
  have HC : Hid (∀ W, Below w.heap.size w W → Nb W w.heap.size h A F.len cap → Calls Tryz.prog 44 #[nv h A F.len cap] W fun e w' => e = .returned (.bool bc) ∧ Below w.heap.size w w' ∧ Nb w' w.heap.size h A F.len cap) := Lib.hid fun W hW hN => by
    rw [← hbc]; exact (childrenFit_any h F A cap W ((hk.below hW (Nat.le_refl _)).mono hW.size) hm).mono fun e w' hq => ⟨hq.1, hW.trans (hq.2.mono hW.size), hN.below hq.2⟩
  have HB := Lib.hid hbt
  have HBN := Lib.hid hbn
  have HBC := Lib.hid hbc
  have HI := Lib.hid ih
  have HG := Lib.hid hG
  have HR := Lib.hid (Rest.start hk)
  have HA := Lib.hid hF
  have H0 : Hid (Below w.heap.size w (w.alloc (.cells #[.int .i64 h.kind, .string h.text, .int .i64 h.num, .int .i64 h.pos, .slice A F.len cap, .int .i64 h.tk, .string h.tn, .int .i64 h.ref, .int .i64 h.up] 26))) := (Below.refl _ _).alloc (Nat.le_refl _) _
  have HNB := Lib.hid (Nb.new w h A F.len cap)
  clear ih hk hF hG hbt hbn hbc hn
  by_cases hd : d = 0
  · subst hd
    go_enter Tryz.func28, Tryz.ntmps28
    go_wp2
    go_ret
    exact ⟨rfl, H0.out⟩
  have hd1 : (d == 0) = false := by simpa using hd
  have hdt : d.toNat ≠ 0 := by omega
  cases bt
  · go_enter Tryz.func28, Tryz.ntmps28
    go_wp2_with (go_at_call 42; refine (HT.out _ H0.out HNB.out).mono ?_; rintro e w1 ⟨rfl, hb1, hn1⟩; have HB1 := Lib.hid hb1; obtain ⟨c0, c1, c2, c3, c4, c5, c6, c7, c8⟩ := hn1.cells; have HN1 := Lib.hid hn1; clear hb1 hn1)
    go_ret
    exact ⟨ret_bool (permT_no (.inl HB.out)).symm, HB1.out⟩
  cases bn
  · go_enter Tryz.func28, Tryz.ntmps28
    go_wp2_with (first
      | (go_at_call 42; refine (HT.out _ H0.out HNB.out).mono ?_; rintro e w1 ⟨rfl, hb1, hn1⟩; have HB1 := Lib.hid hb1; obtain ⟨c0, c1, c2, c3, c4, c5, c6, c7, c8⟩ := hn1.cells; have HN1 := Lib.hid hn1; clear hb1 hn1)
      | (go_at_call 43; refine (HN.out _ HB1.out HN1.out).mono ?_; rintro e w2 ⟨rfl, hb2, hn2⟩; have HB2 := Lib.hid hb2; obtain ⟨d0, d1, d2, d3, d4, d5, d6, d7, d8⟩ := hn2.cells; have HN2 := Lib.hid hn2; clear hb2 hn2))
    go_ret
    exact ⟨ret_bool (permT_no (.inr (.inl HBN.out))).symm, HB2.out⟩
  cases bc
  · go_enter Tryz.func28, Tryz.ntmps28
    go_wp2_with (first
      | (go_at_call 42; refine (HT.out _ H0.out HNB.out).mono ?_; rintro e w1 ⟨rfl, hb1, hn1⟩; have HB1 := Lib.hid hb1; obtain ⟨c0, c1, c2, c3, c4, c5, c6, c7, c8⟩ := hn1.cells; have HN1 := Lib.hid hn1; clear hb1 hn1)
      | (go_at_call 43; refine (HN.out _ HB1.out HN1.out).mono ?_; rintro e w2 ⟨rfl, hb2, hn2⟩; have HB2 := Lib.hid hb2; obtain ⟨d0, d1, d2, d3, d4, d5, d6, d7, d8⟩ := hn2.cells; have HN2 := Lib.hid hn2; clear hb2 hn2)
      | (go_at_call 44; refine (HC.out _ HB2.out HN2.out).mono ?_; rintro e w3 ⟨rfl, hb3, hn3⟩; have HB3 := Lib.hid hb3; obtain ⟨e0, e1, e2, e3, e4, e5, e6, e7, e8⟩ := hn3.cells; have HN3 := Lib.hid hn3; clear hb3 hn3))
    go_ret
    exact ⟨ret_bool (permT_no (.inr (.inr HBC.out))).symm, HB3.out⟩
  have HQ := Lib.hid (permT_yes (d := d.toNat) hdt HB.out HBN.out HBC.out)
  go_enter Tryz.func28, Tryz.ntmps28
  go_wp2_with (first
      | (go_at_call 42; refine (HT.out _ H0.out HNB.out).mono ?_; rintro e w1 ⟨rfl, hb1, hn1⟩; have HB1 := Lib.hid hb1; obtain ⟨c0, c1, c2, c3, c4, c5, c6, c7, c8⟩ := hn1.cells; have HN1 := Lib.hid hn1; clear hb1 hn1)
      | (go_at_call 43; refine (HN.out _ HB1.out HN1.out).mono ?_; rintro e w2 ⟨rfl, hb2, hn2⟩; have HB2 := Lib.hid hb2; obtain ⟨d0, d1, d2, d3, d4, d5, d6, d7, d8⟩ := hn2.cells; have HN2 := Lib.hid hn2; clear hb2 hn2)
      | (go_at_call 44; refine (HC.out _ HB2.out HN2.out).mono ?_; rintro e w3 ⟨rfl, hb3, hn3⟩; have HB3 := Lib.hid hb3; obtain ⟨e0, e1, e2, e3, e4, e5, e6, e7, e8⟩ := hn3.cells; have HN3 := Lib.hid hn3; clear hb3 hn3))
  go_loopw [27] (fun ix wr => ∃ (i : Nat) (R : Fo), ix = .int .i64 (i : Int) ∧ Rest (Lt w.heap.size) w A F i R ∧ R.All PermP ∧ R.AllH numIx ∧ permF nm F (d.toNat - 1) = permF nm R (d.toNat - 1) ∧ R.cnt ≤ F.cnt ∧ Below w.heap.size w wr) (fun ix _ => F.len - (intOf ix).toNat)
  case atStart => exact ⟨0, F, rfl, HR.out, HI.out, HA.out, rfl, Nat.le_refl _, HB3.out⟩
  case round =>
    obtain ⟨i, R, rfl, hr, hP, hA, hp, hcn, hb⟩ := hrel
    have HBB := Lib.hid hb
    have HP := Lib.hid hp
    cases R with
    | nil =>
      have hi := hr.stop
      subst hi
      clear hr hP hA hp hb
      go_wp2
      go_ret
      exact ⟨ret_bool (by rw [HQ.out, HP.out]; rfl), HBB.out⟩
    | cons h' k' r =>
      obtain ⟨g, o, A', cap', rfl, ⟨c0, c1, c2, c3, c4, c5, c6, c7, c8⟩, hkc, hk', hr', hi, hg⟩ := (hr.below hb (Nat.le_refl _)).next
      have hrw := hr.tail
      have HRR := Lib.hid hrw
      obtain ⟨p1, p2⟩ := hP
      have HP2 := Lib.hid p2
      obtain ⟨a1, a2, a3⟩ := hA
      have HA3 := Lib.hid a3
      simp only [Fo.cnt] at hcn
      have hkc2 : k'.cnt ≤ 1048576 := by omega
      obtain ⟨bk, hbk⟩ : ∃ b, permT nm h' k' (d - 1).toNat = b := ⟨_, rfl⟩
      have hzz := hb.size
      have HP1 : Hid (∀ W, Below wr.heap.size wr W → Calls Tryz.prog 28 #[nv h' A' k'.len cap', .int .i64 (d - 1)] W fun e w' => e = .returned (.bool bk) ∧ Below w.heap.size w w') := Lib.hid fun W hW => by
        rw [← hbk]
        have hbw := hb.trans (hW.mono hzz)
        exact (p1 A' cap' W (d - 1) (glob_below HG.out hbw) ((hk'.below hW hzz).mono hbw.size) a1 a2 (by omega) (by omega) hkc2).mono fun e w' hq => ⟨hq.1, hbw.trans (hq.2.mono hbw.size)⟩
      have HBK : Hid (permT nm h' k' (d.toNat - 1) = bk) := by
        have e : (d - 1).toNat = d.toNat - 1 := by omega
        rw [← e]; exact hbk
      have hi1 : (i : Int) < (F.len : Int) := by omega
      have HW0 : Hid (Below wr.heap.size wr (wr.alloc (.cells #[.int .i64 h'.kind, .string h'.text, .int .i64 h'.num, .int .i64 h'.pos, .slice A' k'.len cap', .int .i64 h'.tk, .string h'.tn, .int .i64 h'.ref, .int .i64 h'.up] 26))) := (Below.refl _ _).alloc (Nat.le_refl _) _
      clear hr hr' hrw hk' p1 p2 a1 a2 a3 hb hbk hp
      cases bk
      · go_wp2_with (go_at_call 28; refine (HP1.out _ HW0.out).mono ?_; rintro e w2 ⟨rfl, hb2⟩)
        go_ret
        exact ⟨ret_bool (by rw [HQ.out, HP.out, permF_cons, HBK.out]; rfl), hb2⟩
      · go_wp2_with (go_at_call 28; refine (HP1.out _ HW0.out).mono ?_; rintro e w2 ⟨rfl, hb2⟩; have HB4 := Lib.hid hb2; clear hb2)
        go_roundw
        case rel => exact ⟨i + 1, r, by go_num, HRR.out, HP2.out, HA3.out, by rw [HP.out, permF_cons, HBK.out]; rfl, by omega, HB4.out⟩
        case measure => simp [intOf]; omega

end Go.Proofs.YticbcnhbpbaocaaGreatDoor

namespace Go.Proofs.YticbcnhbpbaocaaGreatDoor
open Go.RowKit T T.Fo

theorem valid_yes {h : Hd} {F : Fo} (h2 : (h.kind == 1) = true) : permT nm h F (50 : Int).toNat = validT nm h F := by
  have e : (50 : Int).toNat = 50 := by decide
  rw [e]; unfold validT; rw [h2, Bool.true_and]
theorem valid_no {h : Hd} {F : Fo} (h2 : (h.kind == 1) = false) : false = validT nm h F := by
  unfold validT; rw [h2, Bool.false_and]
set_option maxRecDepth 100000 in
set_option maxHeartbeats 4000000 in
theorem valid_any (h : Hd) (F : Fo) (A : Option Addr) (cap : Nat) (w : World) (hG : Glob w) (hk : Kids (Lt w.heap.size) w A F) (hn : numIx h) (hF : F.AllH numIx) (hm : F.cnt ≤ 1048576) :
    Calls Tryz.prog 13 #[nv h A F.len cap] w fun e w' => e = .returned (.bool (validT nm h F)) ∧ Below w.heap.size w w' := by
  obtain ⟨bv, hbv⟩ : ∃ b, permT nm h F (50 : Int).toNat = b := ⟨_, rfl⟩
  have HP : Hid (∀ W, Below w.heap.size w W → Calls Tryz.prog 28 #[nv h A F.len cap, .int .i64 50] W fun e w' => e = .returned (.bool bv) ∧ Below w.heap.size w w') := Lib.hid fun W hW => by
    rw [← hbv]; exact (perm_any h F A cap W 50 (glob_below hG hW) ((hk.below hW (Nat.le_refl _)).mono hW.size) hn hF (by omega) (by omega) hm).mono fun e w' hq => ⟨hq.1, hW.trans (hq.2.mono hW.size)⟩
  have H0 : Hid (Below w.heap.size w (w.alloc (.cells #[.int .i64 h.kind, .string h.text, .int .i64 h.num, .int .i64 h.pos, .slice A F.len cap, .int .i64 h.tk, .string h.tn, .int .i64 h.ref, .int .i64 h.up] 26))) := (Below.refl _ _).alloc (Nat.le_refl _) _
  have HN0 := Lib.hid hn
  have HF0 := Lib.hid hF
  clear hG hk hn hF
  by_cases h1 : h.kind = 1
  · have h2 : (h.kind == 1) = true := by simpa using h1
    have HV : Hid (bv = validT nm h F) := Lib.hid (hbv ▸ valid_yes h2)
    clear hbv h1
    go_enter Tryz.func13, Tryz.ntmps13
    go_wp2_with (go_at_call 28; refine (HP.out _ H0.out).mono ?_; rintro e w1 ⟨rfl, hb1⟩)
    go_ret
    exact ⟨ret_bool HV.out, hb1⟩
  · have h2 : (h.kind == 1) = false := by simpa using h1
    have HV : Hid (false = validT nm h F) := Lib.hid (valid_no h2)
    go_enter Tryz.func13, Tryz.ntmps13
    go_wp2
    go_ret
    exact ⟨ret_bool HV.out, H0.out⟩
end Go.Proofs.YticbcnhbpbaocaaGreatDoor

namespace Go.Proofs.YticbcnhbpbaocaaGreatDoor
open Go.RowKit T T.Fo

theorem info50 : (Tryz.prog.info? 50).map (·.size) = some 2 := by kernel_rfl
theorem infoByte : (Tryz.prog.info? 5).map (fun i => (i.zero, i.size, i.bytes)) = some (some (.int .u8 0), 1, 1) := by kernel_rfl
theorem lies52 : liesAt Tryz.prog Tryz.prog.depth 52 (3 / Tryz.prog.cellsOf 52) 0 50 1 = true := by kernel_rfl

/-- The pointer to a block. -/
abbrev pt (b : Nat) : Value := .pointer (some ⟨b, 0, none⟩)
/-- The printer at block b: its text, its tabs; p: the builder's own mark. -/
structure PrA (w : World) (B b : Nat) (p : Value) (A : Option Addr) (cap : Nat) (l : Bs) (d : Int) : Prop where
  le : B ≤ b
  bk : w.heap[b]? = some (.cells #[p, .slice A l.length cap, .int .i64 d] 52 (0, 0))
  own : w.ownsRow B 5 1 (.slice A l.length cap) l.length (Lib.byteCells l)
  ne : (Value.slice A l.length cap).ownBlock ≠ some b
def Pr (w : World) (B b : Nat) (l : Bs) (d : Int) : Prop := ∃ p A cap, (p = .pointer none ∨ p = pt b) ∧ PrA w B b p A cap l d
/-- Blocks of neither bytes nor printers stand. -/
def Kp (w w' : World) : Prop := ∀ (k : Nat) (cs : Array Value) (t : TypeId), t ≠ 5 → t ≠ 52 → w.heap[k]? = some (Obj.cells cs t (0, 0)) → w'.heap[k]? = some (Obj.cells cs t (0, 0))
theorem Kp.refl (w : World) : Kp w w := fun _ _ _ _ _ h => h
theorem Kp.trans {a b c : World} (h : Kp a b) (k : Kp b c) : Kp a c := fun i cs t h1 h2 hi => k i cs t h1 h2 (h i cs t h1 h2 hi)
theorem Kp.set_ {w : World} {b : Nat} {c : Array Value} {fr : Nat × Nat} (hb : w.heap[b]? = some (.cells c 52 fr)) (i : Nat) (u : Value) : Kp w (w.setCell ⟨b, i, none⟩ u) := fun k cs t _ h2 hk => by
  have hne : k ≠ b := by
    rintro rfl
    rw [hb] at hk
    injection hk with hk
    injection hk with _ h3
    exact h2 h3.symm
  rw [Below.heap_setCell w ⟨b, i, none⟩ u k hne]; exact hk
theorem Kp.alloc (w : World) (o : Obj) : Kp w (w.alloc o) := fun k _ _ _ _ hk => (Below.heap_alloc w o k (Array.getElem?_eq_some_iff.1 hk).1).trans hk
theorem Kp.below {w w' : World} (h : Below w.heap.size w w') : Kp w w' := fun k _ _ _ _ hk => (h.block k (Array.getElem?_eq_some_iff.1 hk).1).trans hk
theorem Kp.heap {w w' : World} (h : w'.heap = w.heap) : Kp w w' := fun k _ _ _ _ hk => by rw [h]; exact hk
theorem Kp.grown {w w' : World} {B n : Nat} {v : Value} {xs : List Value} (hown : w.ownsRow B 5 1 v n xs) (hg : w.grownBy w' v.ownBlock) : Kp w w' := fun k cs t h1 _ hk => by
  refine (hg.block k (Array.getElem?_eq_some_iff.1 hk).1 (fun e => ?_)).trans hk
  rcases hown.2 with ⟨rfl, _⟩ | ⟨g, c, cur, rfl, _, hgg, _⟩
  · cases e
  · injection e with e
    have e2 : k = g := e
    subst e2
    rw [hgg] at hk
    injection hk with hk
    injection hk with _ h3
    exact h1 h3.symm

set_option maxRecDepth 100000 in
set_option maxHeartbeats 1000000 in
theorem check_used (b : Nat) (w : World) (h0 : w.cell? ⟨b, 0, none⟩ = some (pt b)) :
    Calls Tryz.prog 100 #[pt b] w fun e w' => e = .returned (.tuple #[]) ∧ w = w' := by
  obtain ⟨j, hj, _⟩ := Option.map_eq_some_iff.1 info50
  go_enter Tryz.func100, Tryz.ntmps100
  go_wp2
  rw [Lib.run_neq_ptr_same w _ Tryz.underlying47 hj]
  go_wp2
  go_end0
  exact ⟨rfl, rfl⟩
set_option maxRecDepth 100000 in
set_option maxHeartbeats 1000000 in
theorem check_fresh (b : Nat) (w : World) (h0 : w.cell? ⟨b, 0, none⟩ = some (.pointer none)) (hsh : w.shape? b = some (52, 3)) (hfz : w.frozen? ⟨b, 0, none⟩ = false) :
    Calls Tryz.prog 100 #[pt b] w fun e w' => e = .returned (.tuple #[]) ∧ w' = w.setCell ⟨b, 0, none⟩ (pt b) := by
  obtain ⟨j, hj, hjs⟩ := Option.map_eq_some_iff.1 info50
  go_enter Tryz.func100, Tryz.ntmps100
  go_wp2
  rw [Lib.run_to_unsafe w ⟨b, 0, none⟩ Tryz.underlying47 Tryz.underlying94 hj (by rw [hjs]; decide) hsh (Nat.zero_lt_succ 2)]
  simp only [Result.andThen]
  rw [Oper.upon_value]
  go_wp2
  rw [run_callFunc_extern Tryz.func117 (by kernel_rfl) (by kernel_rfl) (by kernel_rfl) (e := Extern.AbiNoEscape.same) (by kernel_rfl)]
  rw [Lib.run_noEscape]
  simp only [Result.andThen]
  rw [Oper.upon_value]
  go_wp2
  rw [Lib.run_from_unsafe w ⟨b, 0, none⟩ Tryz.underlying94 Tryz.underlying47 hj hsh lies52]
  simp only [Result.andThen]
  rw [Oper.upon_value]
  go_wp2
  go_end0
  exact ⟨rfl, rfl⟩

theorem PrA.own_ne {w : World} {B b cap : Nat} {p : Value} {A : Option Addr} {l : Bs} {d : Int} (H : PrA w B b p A cap l d) : b < w.heap.size := (Array.getElem?_eq_some_iff.1 H.bk).1
/-- A cell of the printer is written. -/
theorem PrA.mark {w : World} {B b cap : Nat} {p q : Value} {A : Option Addr} {l : Bs} {d : Int} (H : PrA w B b p A cap l d) : PrA (w.setCell ⟨b, 0, none⟩ q) B b q A cap l d := by
  have hlt := H.own_ne
  refine ⟨H.le, ?_, ?_, H.ne⟩
  · simp [World.setCell, Array.getElem?_modify, H.bk]
  · exact H.own.kept (row := some b) ⟨rfl, rfl, rfl, by simp [World.setCell], fun k _ hk => Below.heap_setCell _ _ _ _ (fun e => hk (by simp [e]))⟩ (Or.inr H.ne)
theorem check_any {B b cap : Nat} {p : Value} {A : Option Addr} {l : Bs} {d : Int} (w : World) (h : PrA w B b p A cap l d) (hp : p = .pointer none ∨ p = pt b) :
    Calls Tryz.prog 100 #[pt b] w fun e w' => e = .returned (.tuple #[]) ∧ PrA w' B b (pt b) A cap l d ∧ Below B w w' ∧ Kp w w' := by
  have hbk := h.bk
  rcases hp with rfl | rfl
  · refine (check_fresh b w (by simp [World.cell?, hbk]) (by simp [World.shape?, hbk]) (by simp [World.frozen?, hbk])).mono ?_
    rintro e w' ⟨rfl, rfl⟩
    exact ⟨rfl, h.mark, (Below.refl B w).setCell (p := ⟨b, 0, none⟩) h.le _, Kp.set_ hbk 0 _⟩
  · refine (check_used b w (by simp [World.cell?, hbk])).mono ?_
    rintro e w' ⟨rfl, rfl⟩
    exact ⟨rfl, h, Below.refl B _, Kp.refl _⟩

theorem PrA.put {w : World} {B b cap cap' : Nat} {p : Value} {A A' : Option Addr} {l l' : Bs} {d : Int} (hB : B ≤ b) (hb : w.heap[b]? = some (.cells #[p, .slice A l.length cap, .int .i64 d] 52 (0, 0))) (hown : w.ownsRow B 5 1 (.slice A' l'.length cap') l'.length (Lib.byteCells l')) :
    PrA (w.setCell ⟨b, 1, none⟩ (.slice A' l'.length cap')) B b p A' cap' l' d := by
  have hne := Lib.ownBlock_ne hown hb (by decide)
  refine ⟨hB, ?_, ?_, hne⟩
  · simp [World.setCell, Array.getElem?_modify, hb]
  · exact hown.kept (row := some b) ⟨rfl, rfl, rfl, by simp [World.setCell], fun k _ hk => Below.heap_setCell _ _ _ _ (fun e => hk (by simp [e]))⟩ (Or.inr hne)
theorem put_back {b cap : Nat} {l : Bs} {d : Int} {w1 w2 : World} {A : Option Addr} (hbk : w1.heap[b]? = some (.cells #[pt b, .slice A l.length cap, .int .i64 d] 52 (0, 0)))
    (hne : (Value.slice A l.length cap).ownBlock ≠ some b) (hgr : w1.grownBy w2 (Value.slice A l.length cap).ownBlock) :
    w2.heap[b]? = some (.cells #[pt b, .slice A l.length cap, .int .i64 d] 52 (0, 0)) ∧ w2.cell? ⟨b, 0, none⟩ = some (pt b) ∧ w2.cell? ⟨b, 1, none⟩ = some (.slice A l.length cap) ∧ w2.frozen? ⟨b, 1, none⟩ = false := by
  have h2 : w2.heap[b]? = _ := (hgr.block b (Array.getElem?_eq_some_iff.1 hbk).1 (fun e => hne e.symm)).trans hbk
  exact ⟨h2, by simp [World.cell?, h2], by simp [World.cell?, h2], by simp [World.frozen?, h2]⟩
theorem slice_form {w : World} {base e size n : Nat} {v : Value} {xs : List Value} (h : w.ownsRow base e size v n xs) : ∃ A cap, v = .slice A n cap := by
  rcases h.2 with ⟨hv, h0⟩ | ⟨g, c, cur, hv, _⟩
  · exact ⟨_, _, by rw [hv, h0]⟩
  · exact ⟨_, _, hv⟩
theorem strCells_eq (s : ByteArray) : Lib.strCells s = Lib.byteCells s.data.toList := by
  first | rfl | (simp [Lib.strCells, Lib.byteCells])
theorem byteCells_append (l m : Bs) : Lib.byteCells (l ++ m) = Lib.byteCells l ++ Lib.byteCells m := by simp [Lib.byteCells]
theorem byteCells_len (l : Bs) : (Lib.byteCells l).length = l.length := by simp [Lib.byteCells]
theorem ba_len (s : ByteArray) : s.data.toList.length = s.size := rfl

set_option maxRecDepth 100000 in
set_option maxHeartbeats 1000000 in
theorem writeString_any {B b : Nat} {l : Bs} {d : Int} (s : ByteArray) (w : World) (h : Pr w B b l d) (hlen : l.length + s.size ≤ 140737488355328) (hBw : B ≤ w.heap.size) :
    Calls Tryz.prog 74 #[pt b, .string s] w fun e w' => e = .returned (.tuple #[.int .i64 s.size, .nilIface]) ∧ Pr w' B b (l ++ s.data.toList) d ∧ Below B w w' ∧ Kp w w' := by
  obtain ⟨p, A, cap, hp, h⟩ := h
  obtain ⟨i0, hi, hz0, hz1, hz2⟩ := info_parts infoByte
  have HC := Lib.hid (check_any w h hp)
  clear h hp
  go_enter Tryz.func74, Tryz.ntmps74
  go_wp2_with fail
  refine HC.out.mono ?_
  rintro e w1 ⟨rfl, h1, hb1, hk1⟩
  have HK1 := Lib.hid hk1
  clear hk1
  have hbk := h1.bk
  have c1 : w1.cell? ⟨b, 1, none⟩ = some (.slice A l.length cap) := by simp [World.cell?, hbk]
  have hlt := h1.own_ne
  have HK := Lib.hid hbk
  have HO := Lib.hid h1.own
  have HN := Lib.hid h1.ne
  have HB1 := Lib.hid hb1
  have hle := h1.le
  clear hbk hb1 h1
  have hsz := HB1.out.size
  go_wp2_with (at_builtin; refine Lib.wpList_append_own_string _ rfl _ _ 48 9 rfl B 5 i0 Tryz.underlying48 Tryz.underlying9 hi hz0 hz1 hz2 _ _ _ rfl HO.out s rfl (by unfold maxLen; omega) (by omega) (by omega) ?_; intro v' w2 hown' hgrow _; obtain ⟨A2, cap2, rfl⟩ := slice_form hown'; obtain ⟨k0, k1, k2, k3⟩ := put_back HK.out HN.out hgrow; have R0 := Lib.hid k0; have R1 := Lib.hid hown'; have R2 := Lib.hid hgrow; clear k0 hown' hgrow)
  go_ret2
  have e1 : l.length + s.size = (l ++ s.data.toList).length := by rw [List.length_append]; rfl
  refine ⟨rfl, ?_, ?_, HK1.out.trans ((Kp.grown HO.out R2.out).trans (Kp.set_ R0.out 1 _))⟩
  · rw [e1]
    refine ⟨_, A2, cap2, .inr rfl, PrA.put hle R0.out ?_⟩
    have := R1.out
    rw [e1, strCells_eq, ← byteCells_append] at this
    exact this
  · exact (HB1.out.grown R2.out (by omega) (fun k hk => (HO.out.lt k hk).1)).setCell (p := ⟨b, 1, none⟩) hle _
end Go.Proofs.YticbcnhbpbaocaaGreatDoor

namespace Go.Proofs.YticbcnhbpbaocaaGreatDoor
open Go.RowKit T T.Fo
theorem cellsByte : Tryz.prog.cellsOf 5 = 1 := by kernel_rfl

set_option maxHeartbeats 2000000 in
set_option maxRecDepth 100000 in
theorem string_some {B b cap : Nat} {p : Value} {A : Option Addr} {l : Bs} {d : Int} (w : World) (h : PrA w B b p A cap l d) (h0 : l ≠ []) :
    Calls Tryz.prog 37 #[pt b] w fun e w' => e = .returned (.string ⟨l.toArray⟩) ∧ Below B w w' := by
  obtain ⟨hB, hbk, hown, hne⟩ := h
  have hl0 : l.length ≠ 0 := by simpa using h0
  obtain ⟨g, rfl, hbg, cur, hg, hnc, hcm, hcs, htake⟩ : ∃ g, A = some ⟨g, 0, none⟩ ∧ B ≤ g ∧ ∃ cur, w.heap[g]? = some (.cells cur 5 (0, 0)) ∧ l.length ≤ cap ∧ cap ≤ maxLen ∧ cur.size = cap * 1 ∧ cur.toList.take (l.length * 1) = Lib.byteCells l := by
    rcases hown.2 with ⟨_, hz⟩ | ⟨g, cap, cur, hv, hb, r⟩
    · exact absurd hz hl0
    · injection hv with e1 e2 e3
      subst e1; subst e3
      exact ⟨g, rfl, hb, cur, r⟩
  have c1 : w.drew.cell? ⟨b, 1, none⟩ = some (.slice (some ⟨g, 0, none⟩) l.length cap) := by
    have : w.drew.heap[b]? = some (.cells #[p, .slice (some ⟨g, 0, none⟩) l.length cap, .int .i64 d] 52 (0, 0)) := hbk
    rw [Lib.cell_of_heap this]; rfl
  have hSD : (Builtin.unsafeSliceData_ #[48] 61 #[.slice (some ⟨g, 0, none⟩) l.length cap]).run Tryz.prog w.drew = .ok (.pointer (some ⟨g, 0, none⟩)) w.drew :=
    Lib.run_unsafeSliceData_row _ _ _ _ _ _ (by omega)
  have hUS : (Builtin.unsafeString_ #[61, 3] 9 #[.pointer (some ⟨g, 0, none⟩), .int .i64 l.length]).run Tryz.prog w.drew = .ok (.string ⟨l.toArray⟩) (w.drew.freeze ⟨g, 0, none⟩ l.length) := by
    refine Lib.run_unsafeString_row w.drew 61 3 9 5 Tryz.underlying61 cellsByte g cur.size (by have hg' : w.drew.heap[g]? = some (.cells cur 5 (0, 0)) := hg; simp [World.shape?, hg']) l h0 (by omega) (by unfold maxLen at hcm; omega) ?_
    intro j x hx
    have := hown.cells (g := g) rfl j (.int .u8 x.toNat) (by simp [Lib.byteCells, hx])
    exact this
  have HH := Lib.hid hbg
  clear hown htake hcs hbk hg hne
  go_enter Tryz.func37, Tryz.ntmps37
  go_wp2
  go_region
  all_goals (go_wp2; go_ret; exact ⟨rfl, Lib.below_freeze (Below.drew (Below.refl B w)) (p := ⟨g, 0, none⟩) HH.out _⟩)

theorem unsafeString_none (W : World) (q : Option Addr) : (Builtin.unsafeString_ #[61, 3] 9 #[.pointer q, .int .i64 0]).run Tryz.prog W = .ok (.string .empty) W :=
  Lib.run_unsafeString_none W _ _ _ q

set_option maxHeartbeats 2000000 in
set_option maxRecDepth 100000 in
theorem string_nil {b : Nat} {p : Value} {d : Int} (B : Nat) (w : World) (hbk : w.heap[b]? = some (.cells #[p, .slice none 0 0, .int .i64 d] 52 (0, 0))) :
    Calls Tryz.prog 37 #[pt b] w fun e w' => e = .returned (.string ⟨#[]⟩) ∧ Below B w w' := by
  have hUS := unsafeString_none
  have c1 : w.drew.cell? ⟨b, 1, none⟩ = some (.slice none 0 0) := by
    have : w.drew.heap[b]? = some (.cells #[p, .slice none 0 0, .int .i64 d] 52 (0, 0)) := hbk
    rw [Lib.cell_of_heap this]; rfl
  have hSD : (Builtin.unsafeSliceData_ #[48] 61 #[.slice none 0 0]).run Tryz.prog w.drew = .ok (.pointer none) w.drew := rfl
  clear hbk
  go_enter Tryz.func37, Tryz.ntmps37
  go_wp2
  go_region
  all_goals (go_wp2; go_ret; exact ⟨rfl, Below.drew (Below.refl B w)⟩)

set_option maxHeartbeats 2000000 in
set_option maxRecDepth 100000 in
theorem string_noroom {b g : Nat} {p : Value} {d : Int} {cur : Array Value} (B : Nat) (w : World) (hBw : B ≤ w.heap.size) (hbk : w.heap[b]? = some (.cells #[p, .slice (some ⟨g, 0, none⟩) 0 0, .int .i64 d] 52 (0, 0))) (hg : w.heap[g]? = some (.cells cur 5 (0, 0))) :
    Calls Tryz.prog 37 #[pt b] w fun e w' => e = .returned (.string ⟨#[]⟩) ∧ Below B w w' := by
  have hUS := unsafeString_none
  have hlt : b < w.heap.size := (Array.getElem?_eq_some_iff.1 hbk).1
  have c1 : w.drew.cell? ⟨b, 1, none⟩ = some (.slice (some ⟨g, 0, none⟩) 0 0) := by
    have : w.drew.heap[b]? = some (.cells #[p, .slice (some ⟨g, 0, none⟩) 0 0, .int .i64 d] 52 (0, 0)) := hbk
    rw [Lib.cell_of_heap this]; rfl
  have hSD : (Builtin.unsafeSliceData_ #[48] 61 #[.slice (some ⟨g, 0, none⟩) 0 0]).run Tryz.prog w.drew = .ok (.pointer (some ⟨w.drew.heap.size, 0, none⟩)) (w.drew.alloc (.view ⟨g, 0, none⟩ 5)) :=
    Lib.run_unsafeSliceData_zero w.drew _ _ 5 Tryz.underlying61 ⟨g, 0, none⟩ 0 (5, cur.size) (by have hg' : w.drew.heap[g]? = some (.cells cur 5 (0, 0)) := hg; simp [World.shape?, hg'])
  have c2 : (w.drew.alloc (.view ⟨g, 0, none⟩ 5)).cell? ⟨b, 1, none⟩ = some (.slice (some ⟨g, 0, none⟩) 0 0) := by
    have : (w.drew.alloc (.view ⟨g, 0, none⟩ 5)).heap[b]? = _ := (Lib.alloc_old w.drew _ b hlt).trans hbk
    rw [Lib.cell_of_heap this]; rfl
  have c3 : (w.alloc (.view ⟨g, 0, none⟩ 5)).drew.cell? ⟨b, 1, none⟩ = some (.slice (some ⟨g, 0, none⟩) 0 0) := c2
  have c0 : w.cell? ⟨b, 1, none⟩ = some (.slice (some ⟨g, 0, none⟩) 0 0) := c1
  clear hbk hg
  go_enter Tryz.func37, Tryz.ntmps37
  go_wp2
  go_region
  all_goals (go_wp2; go_ret; exact ⟨rfl, (Below.drew (Below.refl B w)).alloc hBw _⟩)

set_option maxHeartbeats 2000000 in
set_option maxRecDepth 100000 in
theorem string_room {b g cap : Nat} {p : Value} {d : Int} (B : Nat) (w : World) (hc0 : cap ≠ 0) (hbk : w.heap[b]? = some (.cells #[p, .slice (some ⟨g, 0, none⟩) 0 cap, .int .i64 d] 52 (0, 0))) :
    Calls Tryz.prog 37 #[pt b] w fun e w' => e = .returned (.string ⟨#[]⟩) ∧ Below B w w' := by
  have hUS := unsafeString_none
  have c1 : w.drew.cell? ⟨b, 1, none⟩ = some (.slice (some ⟨g, 0, none⟩) 0 cap) := by
    have : w.drew.heap[b]? = some (.cells #[p, .slice (some ⟨g, 0, none⟩) 0 cap, .int .i64 d] 52 (0, 0)) := hbk
    rw [Lib.cell_of_heap this]; rfl
  have hSD : (Builtin.unsafeSliceData_ #[48] 61 #[.slice (some ⟨g, 0, none⟩) 0 cap]).run Tryz.prog w.drew = .ok (.pointer (some ⟨g, 0, none⟩)) w.drew :=
    Lib.run_unsafeSliceData_row _ _ _ _ _ _ hc0
  clear hc0 hbk
  go_enter Tryz.func37, Tryz.ntmps37
  go_wp2
  go_region
  all_goals (go_wp2; go_ret; exact ⟨rfl, Below.drew (Below.refl B w)⟩)

theorem string_any {B b : Nat} {l : Bs} {d : Int} (w : World) (h : Pr w B b l d) (hBw : B ≤ w.heap.size) :
    Calls Tryz.prog 37 #[pt b] w fun e w' => e = .returned (.string ⟨l.toArray⟩) ∧ Below B w w' := by
  obtain ⟨p, A, cap, _, h⟩ := h
  cases l with
  | cons x l => exact string_some w h (by simp)
  | nil =>
    have hbk := h.bk
    rcases h.own.2 with ⟨hv, _⟩ | ⟨g, cap', cur, hv, hbg, hg, _⟩
    · injection hv with e1 e2 e3
      subst e1; subst e3
      exact string_nil B w hbk
    · injection hv with e1 e2 e3
      subst e1; subst e3
      by_cases hc0 : cap = 0
      · subst hc0; exact string_noroom B w hBw hbk hg
      · exact string_room B w hc0 hbk
end Go.Proofs.YticbcnhbpbaocaaGreatDoor

namespace Go.Proofs.YticbcnhbpbaocaaGreatDoor
open Go.RowKit T T.Fo

theorem str_of {a : ByteArray} {l : Bs} (h : a.data.toList = l) : a = ⟨l.toArray⟩ := by subst h; rfl
set_option maxHeartbeats 4000000 in
set_option maxRecDepth 100000 in
theorem typeText_any (h : Hd) (A : Option Addr) (n cap : Nat) (w : World) (hm : h.text.size ≤ 20000) :
    Calls Tryz.prog 96 #[nv h A n cap] w fun e w' => e = .returned (.string ⟨(typeS h).toArray⟩) ∧ Below w.heap.size w w' := by
  have HT : Hid (typeS h = if h.kind = 8 then [42] ++ h.text.data.toList
  else if h.text.data.toList = [99, 104, 97, 110] then [99, 104, 97, 110, 32, 105, 110, 116]
  else if h.text.data.toList = [102, 117, 110, 99] then [102, 117, 110, 99, 40, 41]
  else h.text.data.toList) := Lib.hid rfl
  have hsz : 1 + h.text.size ≤ 9223372036854775807 := by omega
  have hsz2 : ¬ 9223372036854775807 < 1 + h.text.size := by omega
  go_enter Tryz.func96, Tryz.ntmps96
  go_wp2
  all_goals try go_ret
  all_goals first
    | exact ⟨congrArg (fun x => Ending.returned (.string x)) (str_of (by rw [HT.out]; simp_all [ByteArray.toList_eq])), (Below.refl _ _).alloc (Nat.le_refl _) _⟩
    | trace_state

theorem mul_one_any (n : Nat) (h : n ≤ 64) (w : World) : Calls Tryz.prog 124 #[.int .u64 1, .int .u64 (n : Int)] w fun e w' => e = .returned (.tuple #[.int .u64 0, .int .u64 (n : Int)]) ∧ w = w' := by
  have h1 := Tryz.bits_Mul 1 n (by omega) (by omega) w
  refine h1.mono ?_
  rintro e w' ⟨rfl, rfl⟩
  have e1 : 1 * n / 18446744073709551616 = 0 := by omega
  have e2 : 1 * n % 18446744073709551616 = n := by omega
  rw [e1, e2]
  exact ⟨rfl, rfl⟩
theorem ext_take (n : Nat) (l : Bs) (p : ByteArray) (hp : p = ⟨l.toArray⟩) : p.extract 0 n = ⟨(l.take n).toArray⟩ := by
  subst hp
  apply ByteArray.ext
  rw [ByteArray.data_extract]
  simp
theorem ext_tabs (n : Nat) (h : n ≤ 64) (p : ByteArray) (hp : p = ⟨(List.replicate 64 (9 : UInt8)).toArray⟩) : p.extract 0 n = ⟨(T.tabs n).toArray⟩ := by
  rw [ext_take n _ p hp, List.take_replicate, Nat.min_eq_left h]
  rfl
theorem pre_yes (p : ByteArray) (h : Lib.hasPrefix p.data.toList [9] = true) (w : World) : Calls Tryz.prog 125 #[.string p, .string ⟨#[9]⟩] w fun e w' => e = .returned (.bool true) ∧ w = w' := by
  refine (Tryz.strings_HasPrefix _ _ w).mono ?_
  rintro e w' ⟨rfl, rfl⟩
  exact ⟨ret_bool h, rfl⟩
theorem pre_no (p : ByteArray) (h : Lib.hasPrefix p.data.toList [9] = false) (w : World) : Calls Tryz.prog 125 #[.string p, .string ⟨#[9]⟩] w fun e w' => e = .returned (.bool false) ∧ w = w' := by
  refine (Tryz.strings_HasPrefix _ _ w).mono ?_
  rintro e w' ⟨rfl, rfl⟩
  exact ⟨ret_bool h, rfl⟩
set_option maxRecDepth 100000 in
theorem repeat_zero_tab (w : World) : Calls Tryz.prog 114 #[.string ⟨#[9]⟩, .int .i64 0] w fun e w' => e = .returned (.string ⟨(T.tabs 0).toArray⟩) ∧ w = w' := by
  go_enter Tryz.func114, Tryz.ntmps114
  go_wp2
  go_ret
  exact ⟨rfl, rfl⟩
set_option maxRecDepth 100000 in
theorem repeat_one_tab (w : World) : Calls Tryz.prog 114 #[.string ⟨#[9]⟩, .int .i64 1] w fun e w' => e = .returned (.string ⟨(T.tabs 1).toArray⟩) ∧ w = w' := by
  go_enter Tryz.func114, Tryz.ntmps114
  go_wp2
  go_ret
  exact ⟨rfl, rfl⟩
set_option maxHeartbeats 4000000 in
set_option maxRecDepth 100000 in
theorem repeat_tab (n : Nat) (hn : 2 ≤ n) (h64 : n ≤ 64) (w : World) : Calls Tryz.prog 114 #[.string ⟨#[9]⟩, .int .i64 (n : Int)] w fun e w' => e = .returned (.string ⟨(T.tabs n).toArray⟩) ∧ w = w' := by
  have HM := Lib.hid (mul_one_any n h64)
  have q2 : ¬ (n : Int) < 0 := by omega
  have q3 : ¬ 9223372036854775807 < (n : Int) := by omega
  have q4 : (n : Int) ≤ 64 := by omega
  have q5 : (n : Int) ≤ 128 := by omega
  have q6 : 0 ≤ (n : Int) := by omega
  have q0 : ((n : Int) == 0) = false := by simp; omega
  have q1 : ((n : Int) == 1) = false := by simp; omega
  go_enter Tryz.func114, Tryz.ntmps114
  go_wp2_with (first
    | (go_at_call 124; refine (HM.out _).mono ?_; rintro e w' ⟨rfl, rfl⟩)
    | (go_at_call 125; refine (pre_no _ rfl _).mono ?_; rintro e w' ⟨rfl, rfl⟩)
    | (go_at_call 125; refine (pre_yes _ rfl _).mono ?_; rintro e w' ⟨rfl, rfl⟩))
  go_ret
  exact ⟨congrArg (fun x => Ending.returned (.string x)) (ext_tabs n h64 _ rfl), rfl⟩
theorem repeat_any_tab (n : Nat) (h64 : n ≤ 64) (w : World) : Calls Tryz.prog 114 #[.string ⟨#[9]⟩, .int .i64 (n : Int)] w fun e w' => e = .returned (.string ⟨(T.tabs n).toArray⟩) ∧ w = w' := by
  by_cases h0 : n = 0
  · subst h0; exact repeat_zero_tab w
  by_cases h1 : n = 1
  · subst h1; exact repeat_one_tab w
  exact repeat_tab n (by omega) h64 w
end Go.Proofs.YticbcnhbpbaocaaGreatDoor

namespace Go.Proofs.YticbcnhbpbaocaaGreatDoor
open Go.RowKit T T.Fo

/-- The table of powers is there. -/
def Tb (w : World) : Prop := Lib.TabIs Tryz.prog w "internal/strconv.uint64pow10" .u64 Lib.pow10Tab
theorem gtab : ∃ g, Tryz.prog.globalNamed "internal/strconv.uint64pow10" = some g ∧ g < 5 := by
  have h : (Tryz.prog.globalNamed "internal/strconv.uint64pow10").map (fun g => decide (g < 5)) = some true := by kernel_rfl
  obtain ⟨g, hg, hd⟩ := Option.map_eq_some_iff.1 h
  exact ⟨g, hg, by simpa using hd⟩
theorem Tb.below {B : Nat} {w w' : World} (h : Tb w) (hb : Below B w w') (hB : 5 ≤ B) : Tb w' := by
  obtain ⟨g, hg, hl⟩ := gtab
  unfold Tb Lib.TabIs World.var? at h ⊢
  rw [hg] at h ⊢
  simp only [Option.bind_some] at h ⊢
  rw [hb.block g (by omega)]
  exact h
abbrev lim : Nat := 140737488355328
/-- A printer at work. -/
structure Pz (W : World) (B b : Nat) (l : Bs) (d : Int) : Prop where
  pr : Pr W B b l d
  tb : Tb W
  hB : B ≤ W.heap.size
  g : 5 ≤ B
/-- Behind a call that prints. -/
def Wr (B b : Nat) (l : Bs) (d : Int) (W : World) : Ending → World → Prop := fun e w' => e = .returned (.tuple #[]) ∧ Pz w' B b l d ∧ Below B W w' ∧ Kp W w'
structure Sn (w1 : World) (B b : Nat) (l : Bs) (d : Int) (W : World) : Prop where
  pz : Pz W B b l d
  bl : Below B w1 W
  kp : Kp w1 W
theorem Pr.keep {W W' : World} {B b : Nat} {l : Bs} {d : Int} (h : Pr W B b l d) (hb : Below W.heap.size W W') : Pr W' B b l d := by
  obtain ⟨p, A, cap, hp, hle, hbk, hown, hne⟩ := h
  refine ⟨p, A, cap, hp, hle, (hb.block b (Array.getElem?_eq_some_iff.1 hbk).1).trans hbk, hown.kept (row := none) ⟨hb.os, hb.tape, hb.output, hb.size, fun k hk _ => hb.block k hk⟩ ?_, hne⟩
  cases hv : (Value.slice A l.length cap).ownBlock <;> simp
theorem Pz.keep {W W' : World} {B b : Nat} {l : Bs} {d : Int} (h : Pz W B b l d) (hb : Below W.heap.size W W') : Pz W' B b l d :=
  ⟨h.pr.keep hb, h.tb.below hb (by have := h.hB; have := h.g; omega), by have := h.hB; have := hb.size; omega, h.g⟩
theorem Sn.start {W : World} {B b : Nat} {l : Bs} {d : Int} (h : Pz W B b l d) : Sn W B b l d W := ⟨h, Below.refl _ _, Kp.refl _⟩
theorem Sn.keep {w1 W W' : World} {B b : Nat} {l : Bs} {d : Int} (h : Sn w1 B b l d W) (hb : Below W.heap.size W W') : Sn w1 B b l d W' :=
  ⟨h.pz.keep hb, h.bl.trans (hb.mono h.pz.hB), h.kp.trans (Kp.below hb)⟩
theorem Sn.al {w1 W : World} {B b : Nat} {l : Bs} {d : Int} (h : Sn w1 B b l d W) (o : Obj) : Sn w1 B b l d (W.alloc o) := h.keep ((Below.refl _ _).alloc (Nat.le_refl _) _)
theorem Sn.dr {w1 W : World} {B b : Nat} {l : Bs} {d : Int} (h : Sn w1 B b l d W) : Sn w1 B b l d W.drew := h.keep (Below.drew (Below.refl _ _))
theorem Sn.call {w1 W : World} {B b f : Nat} {l l' : Bs} {d d' : Int} {args : Array Value} (h : Sn w1 B b l d W) (hc : Calls Tryz.prog f args W (Wr B b l' d' W)) :
    Calls Tryz.prog f args W fun e w' => e = .returned (.tuple #[]) ∧ Sn w1 B b l' d' w' :=
  hc.mono fun e w' hq => ⟨hq.1, hq.2.1, h.bl.trans hq.2.2.1, h.kp.trans hq.2.2.2⟩
theorem Sn.done {w1 W : World} {B b : Nat} {l l' : Bs} {d : Int} {W' : World} (h : Sn w1 B b l' d W') (hW : Below B W w1) (hk : Kp W w1) (e : l' = l) : Wr B b l d W (.returned (.tuple #[])) W' := by
  subst e
  exact ⟨rfl, h.pz, hW.trans h.bl, hk.trans h.kp⟩
theorem Nb.kp {W W' : World} {b n cap : Nat} {h : Hd} {A : Option Addr} (H : Nb W b h A n cap) (k : Kp W W') : Nb W' b h A n cap := k _ _ _ (by decide) (by decide) H
theorem Pz.fresh {w : World} {B b : Nat} {l : Bs} {d : Int} (h : Pz w B b l d) (o : Obj) : Sn (w.alloc o) B b l d (w.alloc o) := Sn.start (h.keep ((Below.refl _ _).alloc (Nat.le_refl _) _))
theorem Pz.below1 {w : World} {B b : Nat} {l : Bs} {d : Int} (h : Pz w B b l d) (o : Obj) : Below B w (w.alloc o) := (Below.refl _ _).alloc h.hB _

/-- The texts of words, one behind the other. -/
def catS : List ByteArray → Bs
  | [] => []
  | s :: l => s.data.toList ++ catS l
theorem catS_snoc (l : List ByteArray) (s : ByteArray) : catS (l ++ [s]) = catS l ++ s.data.toList := by
  induction l with
  | nil => simp [catS]
  | cons x l ih => simp [catS, ih]
theorem catS_take (l : List ByteArray) (i : Nat) : (catS (l.take i)).length ≤ (catS l).length := by
  induction l generalizing i with
  | nil => simp [catS]
  | cons x l ih =>
    cases i with
    | zero => simp [catS]
    | succ i => have := ih i; simp only [List.take_succ_cons, catS, List.length_append]; omega
theorem catS_at {l : List ByteArray} {i : Nat} (h : i < l.length) : catS (l.take (i + 1)) = catS (l.take i) ++ l[i].data.toList := by
  rw [List.take_succ_eq_append_getElem h, catS_snoc]

set_option maxRecDepth 100000 in
set_option maxHeartbeats 2000000 in
theorem write_any {w1 W : World} {B b g c : Nat} {l : Bs} {d : Int} (ws : List ByteArray) (H : Sn w1 B b l d W) (hrow : W.heap[g]? = some (.cells (ws.map Value.string).toArray 9 (0, 0))) (hn : ws.length ≤ 8) (hlen : l.length + (catS ws).length ≤ lim) :
    Calls Tryz.prog 52 #[pt b, .slice (some ⟨g, 0, none⟩) ws.length c] W fun e w' => e = .returned (.tuple #[]) ∧ Sn w1 B b (l ++ catS ws) d w' := by
  obtain ⟨m, hm⟩ : ∃ m, ws.length = m := ⟨_, rfl⟩
  have HM := Lib.hid hm
  have HH := Lib.hid H
  have HR := Lib.hid hrow
  rw [hm] at hn ⊢
  clear H hrow hm
  have hml : m ≤ 8 := hn
  go_enter Tryz.func52, Tryz.ntmps52
  go_wp2
  go_loopw [8] (fun ix wr => ∃ i : Nat, ix = .int .i64 (i : Int) ∧ i ≤ m ∧ Sn W B b (l ++ catS (ws.take i)) d wr) (fun ix _ => m - (intOf ix).toNat)
  case atStart => exact ⟨0, rfl, by omega, by simpa [catS] using Sn.start HH.out.pz⟩
  case round =>
    obtain ⟨i, rfl, him, hs⟩ := hrel
    have HS := Lib.hid hs
    by_cases hi : i = m
    · subst hi
      clear hs
      go_wp2
      go_end0
      refine ⟨rfl, ?_⟩
      have e : ws.take i = ws := by rw [List.take_of_length_le]; have := HM.out; omega
      have h2 := HS.out
      rw [e] at h2
      exact ⟨h2.pz, HH.out.bl.trans h2.bl, HH.out.kp.trans h2.kp⟩
    · have hi1 : (i : Int) < (m : Int) := by omega
      have hiw : i < ws.length := by have := HM.out; omega
      have hc : wr.cell? ⟨g, i, none⟩ = some (.string ws[i]) := by
        have := hs.kp g _ 9 (by decide) (by decide) HR.out
        rw [Lib.cell_of_heap this]; simp [hiw]
      have e := catS_at hiw
      have hl2 := catS_take ws (i + 1)
      rw [e, List.length_append] at hl2
      have hsz : (l ++ catS (ws.take i)).length + ws[i].size ≤ 140737488355328 := by
        rw [List.length_append]
        have : ws[i].data.toList.length = ws[i].size := rfl
        unfold lim at hlen
        omega
      have HC : Hid (Calls Tryz.prog 74 #[pt b, .string ws[i]] wr fun e w' => e = .returned (.tuple #[.int .i64 ws[i].size, .nilIface]) ∧ Sn W B b (l ++ catS (ws.take (i + 1))) d w') := by
        rw [e, ← List.append_assoc]
        exact Lib.hid ((writeString_any ws[i] wr hs.pz.pr hsz hs.pz.hB).mono fun e w' hq => ⟨hq.1, ⟨hq.2.1, hs.pz.tb.below hq.2.2.1 hs.pz.g, by have := hq.2.2.1.size; have := hs.pz.hB; omega, hs.pz.g⟩, hs.bl.trans hq.2.2.1, hs.kp.trans hq.2.2.2⟩)
      obtain ⟨s, hs'⟩ : ∃ s, ws[i] = s := ⟨_, rfl⟩
      rw [hs'] at HC hc
      clear hs e hl2 hsz hs' hiw
      go_wp2_with (go_at_call 74; refine HC.out.mono ?_; rintro e w2 ⟨rfl, h2⟩; have H2 := Lib.hid h2; clear h2)
      go_roundw
      case rel => exact ⟨i + 1, by go_num, by omega, H2.out⟩
      case measure => simp [intOf]; omega
end Go.Proofs.YticbcnhbpbaocaaGreatDoor

namespace Go.Proofs.YticbcnhbpbaocaaGreatDoor
open Go.RowKit T T.Fo

abbrev Done (w1 : World) (B b : Nat) (l : Bs) (d : Int) : Ending → World → Prop := fun e w' => e = .returned (.tuple #[]) ∧ Sn w1 B b l d w'
theorem write1 {w1 W : World} {B b q : Nat} {l : Bs} {d : Int} (H : Sn w1 B b l d W) (x : ByteArray) (hlen : l.length + x.data.toList.length ≤ lim) (hq : W.heap.size = q) :
    Calls Tryz.prog 52 #[pt b, .slice (some ⟨q, 0, none⟩) 1 1] (W.alloc (.cells #[.string x] 9)) (Done w1 B b (l ++ x.data.toList) d) := by
  subst hq
  have h := write_any (c := 1) [x] (H.al (.cells #[.string x] 9)) (heap_alloc_new W _) (by simp) (by simpa [catS] using hlen)
  simpa [catS] using h
theorem write2 {w1 W : World} {B b q : Nat} {l : Bs} {d : Int} (H : Sn w1 B b l d W) (x y : ByteArray) (hlen : l.length + x.data.toList.length + y.data.toList.length ≤ lim) (hq : W.heap.size = q) :
    Calls Tryz.prog 52 #[pt b, .slice (some ⟨q, 0, none⟩) 2 2] (W.alloc (.cells #[.string x, .string y] 9)) (Done w1 B b (l ++ x.data.toList ++ y.data.toList) d) := by
  subst hq
  have h := write_any (c := 2) [x, y] (H.al (.cells #[.string x, .string y] 9)) (heap_alloc_new W _) (by simp) (by simp only [catS, List.length_append, List.append_nil]; omega)
  simpa [catS] using h
theorem write3 {w1 W : World} {B b q : Nat} {l : Bs} {d : Int} (H : Sn w1 B b l d W) (x y z : ByteArray) (hlen : l.length + x.data.toList.length + y.data.toList.length + z.data.toList.length ≤ lim) (hq : W.heap.size = q) :
    Calls Tryz.prog 52 #[pt b, .slice (some ⟨q, 0, none⟩) 3 3] (W.alloc (.cells #[.string x, .string y, .string z] 9)) (Done w1 B b (l ++ x.data.toList ++ y.data.toList ++ z.data.toList) d) := by
  subst hq
  have h := write_any (c := 3) [x, y, z] (H.al (.cells #[.string x, .string y, .string z] 9)) (heap_alloc_new W _) (by simp) (by simp only [catS, List.length_append, List.append_nil]; omega)
  simpa [catS] using h
theorem write4 {w1 W : World} {B b q : Nat} {l : Bs} {d : Int} (H : Sn w1 B b l d W) (x y z u : ByteArray) (hlen : l.length + x.data.toList.length + y.data.toList.length + z.data.toList.length + u.data.toList.length ≤ lim) (hq : W.heap.size = q) :
    Calls Tryz.prog 52 #[pt b, .slice (some ⟨q, 0, none⟩) 4 4] (W.alloc (.cells #[.string x, .string y, .string z, .string u] 9)) (Done w1 B b (l ++ x.data.toList ++ y.data.toList ++ z.data.toList ++ u.data.toList) d) := by
  subst hq
  have h := write_any (c := 4) [x, y, z, u] (H.al (.cells #[.string x, .string y, .string z, .string u] 9)) (heap_alloc_new W _) (by simp) (by simp only [catS, List.length_append, List.append_nil]; omega)
  simpa [catS] using h

theorem Pz.tabs {W : World} {B b : Nat} {l : Bs} {d : Int} (h : Pz W B b l d) : W.cell? ⟨b, 2, none⟩ = some (.int .i64 d) ∧ W.frozen? ⟨b, 2, none⟩ = false ∧ b < W.heap.size := by
  obtain ⟨p, A, cap, hp, hle, hbk, _⟩ := h.pr
  exact ⟨by simp [World.cell?, hbk], by simp [World.frozen?, hbk], (Array.getElem?_eq_some_iff.1 hbk).1⟩
set_option maxRecDepth 100000 in
set_option maxHeartbeats 2000000 in
theorem indent_any {w1 W : World} {B b : Nat} {l : Bs} {d : Int} (H : Sn w1 B b l d W) (h0 : 0 ≤ d) (h64 : d ≤ 64) (hlen : l.length + (T.tabs d.toNat).length ≤ lim) :
    Calls Tryz.prog 95 #[pt b] W (Done w1 B b (l ++ T.tabs d.toNat) d) := by
  have c2 := H.pz.tabs.1
  have HC : Hid (Calls Tryz.prog 114 #[.string ⟨#[9]⟩, .int .i64 d] W fun e w' => e = .returned (.string ⟨(T.tabs d.toNat).toArray⟩) ∧ W = w') := by
    have h := repeat_any_tab d.toNat (by omega) W
    have e : ((d.toNat : Nat) : Int) = d := by omega
    rw [e] at h; exact Lib.hid h
  obtain ⟨s, hs⟩ : ∃ s : ByteArray, s = ⟨(T.tabs d.toNat).toArray⟩ := ⟨_, rfl⟩
  have e2 : T.tabs d.toNat = s.data.toList := by rw [hs]
  have HW : Hid (Calls Tryz.prog 52 #[pt b, .slice (some ⟨W.heap.size, 0, none⟩) 1 1] (W.alloc (.cells #[.string s] 9)) (Done w1 B b (l ++ T.tabs d.toNat) d)) := by
    rw [e2] at hlen ⊢; exact Lib.hid (write1 H s hlen rfl)
  rw [← hs] at HC
  clear H hlen hs e2
  go_enter Tryz.func95, Tryz.ntmps95
  go_wp2_with (first
    | (go_at_call 114; refine HC.out.mono ?_; rintro e w' ⟨rfl, rfl⟩)
    | (go_at_call 52; refine HW.out.mono ?_; rintro e w' ⟨rfl, h2⟩; have H2 := Lib.hid h2; clear h2))
  go_end0
  exact ⟨rfl, H2.out⟩

/-- f prints v as t, from W on. -/
def Prn (f : FuncId) (v : Value) (t : Bs) (d : Int) (B b : Nat) (W : World) : Prop := ∀ l W', Pz W' B b l d → Below B W W' → l.length + t.length ≤ lim → Calls Tryz.prog f #[pt b, v] W' (Wr B b (l ++ t) d W')
theorem Prn.mono {f : FuncId} {v : Value} {t : Bs} {d : Int} {B b : Nat} {W W1 : World} (h : Prn f v t d B b W) (hb : Below B W W1) : Prn f v t d B b W1 := fun l W' hp hb2 hl => h l W' hp (hb.trans hb2) hl
theorem Sn.prn {w1 W : World} {B b : Nat} {l t : Bs} {d : Int} {f : FuncId} {v : Value} (H : Sn w1 B b l d W) (P : Prn f v t d B b w1) (hl : l.length + t.length ≤ lim) : Calls Tryz.prog f #[pt b, v] W (Done w1 B b (l ++ t) d) :=
  H.call (P l W H.pz H.bl hl)

end Go.Proofs.YticbcnhbpbaocaaGreatDoor

namespace Go.Proofs.YticbcnhbpbaocaaGreatDoor
open Go.RowKit T T.Fo

set_option maxRecDepth 100000 in
set_option maxHeartbeats 2000000 in
theorem around_any {w1 W : World} {B b n cap : Nat} {l t : Bs} {d : Int} {h : Hd} {A : Option Addr} (x y : ByteArray) (H : Sn w1 B b l d W) (P : Prn 115 (nv h A n cap) t d B b w1) (hlen : l.length + x.data.toList.length + t.length + y.data.toList.length ≤ lim) :
    Calls Tryz.prog 97 #[pt b, .string x, nv h A n cap, .string y] W (Done w1 B b (l ++ x.data.toList ++ t ++ y.data.toList) d) := by
  have H1 := Lib.hid (H.al (.cells #[.int .i64 h.kind, .string h.text, .int .i64 h.num, .int .i64 h.pos, .slice A n cap, .int .i64 h.tk, .string h.tn, .int .i64 h.ref, .int .i64 h.up] 26))
  have S1 := Lib.hid (H.pz.fresh (.cells #[.int .i64 h.kind, .string h.text, .int .i64 h.num, .int .i64 h.pos, .slice A n cap, .int .i64 h.tk, .string h.tn, .int .i64 h.ref, .int .i64 h.up] 26))
  have HB := Lib.hid (Nb.new W h A n cap)
  have HP := Lib.hid (P.mono H1.out.bl)
  clear H P
  go_enter Tryz.func97, Tryz.ntmps97
  go_wp2_with (first
    | (go_at_call 52; refine (write1 S3.out y (by simp only [List.length_append]; omega) rfl).mono ?_; rintro e w4 ⟨rfl, s4⟩; have S4 := Lib.hid s4; clear s4)
    | (go_at_call 115; refine (S2.out.prn HP.out (by simp only [List.length_append]; omega)).mono ?_; rintro e w3 ⟨rfl, s3⟩; have S3 := Lib.hid s3; clear s3)
    | (go_at_call 52; refine (write1 S1.out x (by omega) (by simp)).mono ?_; rintro e w2 ⟨rfl, s2⟩; have S2 := Lib.hid s2; obtain ⟨c0, c1, c2, c3, c4, c5, c6, c7, c8⟩ := (HB.out.kp s2.kp).cells; clear s2))
  go_end0
  exact ⟨rfl, S4.out.pz, H1.out.bl.trans S4.out.bl, H1.out.kp.trans S4.out.kp⟩
end Go.Proofs.YticbcnhbpbaocaaGreatDoor

namespace Go.Proofs.YticbcnhbpbaocaaGreatDoor
open Go.RowKit T T.Fo

/-- A node's box. -/
abbrev bx (h : Hd) (A : Option Addr) (n cap : Nat) : Obj := .cells #[.int .i64 h.kind, .string h.text, .int .i64 h.num, .int .i64 h.pos, .slice A n cap, .int .i64 h.tk, .string h.tn, .int .i64 h.ref, .int .i64 h.up] 26
theorem par_len (c : Bool) (t : Bs) : (par c t).length = t.length + (if c then 2 else 0) := by
  cases c <;> simp [par]

set_option maxRecDepth 100000 in
set_option maxHeartbeats 2000000 in
theorem enclosed_any {w1 W : World} {B b g n cap c : Nat} {l t : Bs} {d : Int} {h : Hd} {A : Option Addr} (ks : List Int) (H : Sn w1 B b l d W) (P : Prn 115 (nv h A n cap) t d B b w1)
    (hg : g < W.heap.size) (hks : ∀ j, j < ks.length → W.cell? ⟨g, 0 + j, none⟩ = some (.int .i64 (ks.getD j 0))) (hkl : ks.length ≤ 4) (hlen : l.length + (par (ks.contains h.kind) t).length ≤ lim) :
    Calls Tryz.prog 149 #[pt b, nv h A n cap, .slice (some ⟨g, 0, none⟩) ks.length c] W (Done w1 B b (l ++ par (ks.contains h.kind) t) d) := by
  have H1 := Lib.hid (H.al (bx h A n cap))
  have S1 := Lib.hid (H.pz.fresh (bx h A n cap))
  have HB := Lib.hid (Nb.new W h A n cap)
  have HP := Lib.hid (P.mono H1.out.bl)
  rw [par_len] at hlen
  obtain ⟨bc, hbc⟩ : ∃ bc, ks.contains h.kind = bc := ⟨_, rfl⟩
  have HC : Hid (Calls Tryz.prog 109 #[.slice (some ⟨g, 0, none⟩) ks.length c, .int .i64 h.kind] (W.alloc (bx h A n cap)) fun e w' => e = .returned (.bool bc) ∧ W.alloc (bx h A n cap) = w') := by
    have h1 := Tryz.slices_Contains_int g 0 ks.length c ks h.kind (W.alloc (bx h A n cap)) (Nat.le_refl _) (by omega) (fun j hj => (World.cell?_alloc_lt _ _ _ hg).trans (hks j hj))
    rw [List.take_length, hbc] at h1
    exact Lib.hid (h1.mono fun e w' hq => ⟨hq.1, hq.2.symm⟩)
  rw [hbc] at hlen ⊢
  obtain ⟨m, hm⟩ : ∃ m, ks.length = m := ⟨_, rfl⟩
  rw [hm] at HC ⊢
  clear H P hks hbc hm hkl
  cases bc
  · simp only [Bool.false_eq_true, if_false, Nat.add_zero] at hlen
    go_enter Tryz.func149, Tryz.ntmps149
    go_wp2_with (first
      | (go_at_call 109; refine HC.out.mono ?_; rintro e w' ⟨rfl, rfl⟩)
      | (go_at_call 115; refine (S1.out.prn HP.out (by omega)).mono ?_; rintro e w3 ⟨rfl, s3⟩; have S3 := Lib.hid s3; clear s3))
    go_end0
    exact ⟨rfl, S3.out.pz, H1.out.bl.trans S3.out.bl, H1.out.kp.trans S3.out.kp⟩
  · simp only [if_true] at hlen
    go_enter Tryz.func149, Tryz.ntmps149
    go_wp2_with (first
      | (go_at_call 109; refine HC.out.mono ?_; rintro e w' ⟨rfl, rfl⟩)
      | (go_at_call 97; refine (around_any ⟨#[40]⟩ ⟨#[41]⟩ S1.out HP.out (by show _ + 1 + _ + 1 ≤ _; omega)).mono ?_; rintro e w3 ⟨rfl, s3⟩; have S3 := Lib.hid s3; clear s3))
    go_end0
    refine ⟨rfl, ?_⟩
    have e : l ++ par true t = l ++ [40] ++ t ++ [41] := by simp [par]
    rw [e]
    exact ⟨S3.out.pz, H1.out.bl.trans S3.out.bl, H1.out.kp.trans S3.out.kp⟩

/-- From Prn at a node to a contract of the function that boxes it. -/
theorem row_ints {W : World} (ks : List Int) (hkl : ks.length ≤ 4) : ∀ j, j < ks.length → (W.alloc (.cells (ks.map (Value.int .i64)).toArray 3)).cell? ⟨W.heap.size, 0 + j, none⟩ = some (.int .i64 (ks.getD j 0)) := by
  intro j hj
  rw [World.cell?, heap_alloc_new]
  simp [hj, List.getD_eq_getElem?_getD]

set_option maxRecDepth 100000 in
set_option maxHeartbeats 2000000 in
theorem operand_any {W : World} {B b n cap : Nat} {t : Bs} {d : Int} {h : Hd} {A : Option Addr} (P : Prn 115 (nv h A n cap) t d B b W) : Prn 129 (nv h A n cap) (par (h.kind == 32) t) d B b W := by
  intro l w hp hb hlen
  have HP := Lib.hid (P.mono (hb.trans (hp.below1 (bx h A n cap))))
  have S1 := Lib.hid (hp.fresh (bx h A n cap))
  have e0 : (h.kind == 32) = [32].contains h.kind := by rw [Bool.eq_iff_iff]; simp
  rw [e0] at hlen ⊢
  have HC : Hid (∀ q, (w.alloc (bx h A n cap)).heap.size = q → Calls Tryz.prog 149 #[pt b, nv h A n cap, .slice (some ⟨q, 0, none⟩) 1 1] ((w.alloc (bx h A n cap)).alloc (.cells #[.int .i64 32] 3)) (Done (w.alloc (bx h A n cap)) B b (l ++ par ([32].contains h.kind) t) d)) := by
    refine Lib.hid ?_
    rintro q rfl
    exact enclosed_any (c := 1) (g := (w.alloc (bx h A n cap)).heap.size) [32] (S1.out.al (.cells #[.int .i64 32] 3)) HP.out (by simp) (row_ints [32] (by simp)) (by simp) hlen
  have HW := Lib.hid (hp.below1 (bx h A n cap))
  have HKW := Lib.hid (Kp.alloc w (bx h A n cap))
  clear P hp hb hlen e0
  obtain ⟨u, hu⟩ : ∃ u, par ([32].contains h.kind) t = u := ⟨_, rfl⟩
  rw [hu] at HC ⊢
  clear hu
  go_enter Tryz.func129, Tryz.ntmps129
  go_wp2_with (go_at_call 149; refine (HC.out _ (by simp)).mono ?_; rintro e w3 ⟨rfl, s3⟩; have S3 := Lib.hid s3; clear s3)
  go_end0
  exact S3.out.done HW.out HKW.out rfl
set_option maxRecDepth 100000 in
set_option maxHeartbeats 2000000 in
theorem primary_any {W : World} {B b n cap : Nat} {t : Bs} {d : Int} {h : Hd} {A : Option Addr} (P : Prn 115 (nv h A n cap) t d B b W) : Prn 128 (nv h A n cap) (par (h.kind == 32 || h.kind == 31 || h.kind == 33) t) d B b W := by
  intro l w hp hb hlen
  have HP := Lib.hid (P.mono (hb.trans (hp.below1 (bx h A n cap))))
  have S1 := Lib.hid (hp.fresh (bx h A n cap))
  have e0 : (h.kind == 32 || h.kind == 31 || h.kind == 33) = [32, 31, 33].contains h.kind := by rw [Bool.eq_iff_iff]; simp [or_assoc]
  rw [e0] at hlen ⊢
  have HC : Hid (∀ q, (w.alloc (bx h A n cap)).heap.size = q → Calls Tryz.prog 149 #[pt b, nv h A n cap, .slice (some ⟨q, 0, none⟩) 3 3] ((w.alloc (bx h A n cap)).alloc (.cells #[.int .i64 32, .int .i64 31, .int .i64 33] 3)) (Done (w.alloc (bx h A n cap)) B b (l ++ par ([32, 31, 33].contains h.kind) t) d)) := by
    refine Lib.hid ?_
    rintro q rfl
    exact enclosed_any (c := 3) (g := (w.alloc (bx h A n cap)).heap.size) [32, 31, 33] (S1.out.al (.cells #[.int .i64 32, .int .i64 31, .int .i64 33] 3)) HP.out (by simp) (row_ints [32, 31, 33] (by simp)) (by simp) hlen
  have HW := Lib.hid (hp.below1 (bx h A n cap))
  have HKW := Lib.hid (Kp.alloc w (bx h A n cap))
  clear P hp hb hlen e0
  obtain ⟨u, hu⟩ : ∃ u, par ([32, 31, 33].contains h.kind) t = u := ⟨_, rfl⟩
  rw [hu] at HC ⊢
  clear hu
  go_enter Tryz.func128, Tryz.ntmps128
  go_wp2_with (go_at_call 149; refine (HC.out _ (by simp)).mono ?_; rintro e w3 ⟨rfl, s3⟩; have S3 := Lib.hid s3; clear s3)
  go_end0
  exact S3.out.done HW.out HKW.out rfl
end Go.Proofs.YticbcnhbpbaocaaGreatDoor
