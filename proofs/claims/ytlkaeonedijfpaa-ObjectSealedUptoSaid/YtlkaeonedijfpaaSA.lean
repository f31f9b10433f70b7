/-
  The specification's reader: a number.
  The specification's reader: a count, a string.
  What the specification's reader makes of bytes, by the state of the reader: with the codec's readers where these read, bad where they do not.
-/
import Derived.Test.YtlkaeonedijfpaaQA
import Derived.Deep.RegionHeld3
import Derived.Deep.CutRange
import Derived.BigQuiet
set_option linter.all false
namespace Go.Proofs.Ytlkaeonedijfpaa
open Go.RowKit C
def isBad : Option Bs → Bool | none => true | some _ => false
/-- The specification's reader in a block: not bad and what is left, or bad. -/
structure Sd (w0 w : World) (rb : Nat) (L : Bs) (s : Option Bs) : Prop where
  blk : ∃ A cap, ∃ n : Nat, w.heap[rb]? = some (.cells #[.slice A L.length cap, .int .i64 (n : Int), .bool (isBad s)] 67 (0, 0)) ∧ L.length ≤ cap ∧ cap ≤ maxLen ∧ Row 1 (ByAt w0) A L ∧ n ≤ L.length ∧ ∀ l, s = some l → l = L.drop n
  bel : Below w0.heap.size w0 w
  lb : w0.heap.size ≤ rb
theorem cells3' {w : World} {b : Nat} {a0 a1 a2 : Value} {t : TypeId} (h : w.heap[b]? = some (.cells #[a0, a1, a2] t (0, 0))) : (w.cell? ⟨b, 0, none⟩ = some a0 ∧ w.cell? ⟨b, 1, none⟩ = some a1 ∧ w.cell? ⟨b, 2, none⟩ = some a2) ∧
    w.frozen? ⟨b, 0, none⟩ = false ∧ w.frozen? ⟨b, 1, none⟩ = false ∧ w.frozen? ⟨b, 2, none⟩ = false := by
  simp [World.cell?, World.frozen?, h]
theorem Sd.bad {w0 w : World} {rb : Nat} {L : Bs} {s : Option Bs} (h : Sd w0 w rb L s) : Sd w0 (w.setCell ⟨rb, 2, none⟩ (.bool true)) rb L none := by
  obtain ⟨A, cap, n, h1, h2, h3, h4, h5, h6⟩ := h.blk
  exact ⟨⟨A, cap, n, by simp [World.setCell, Array.getElem?_modify, h1, isBad], h2, h3, h4, h5, fun l e => by cases e⟩, h.bel.setCell (p := ⟨rb, 2, none⟩) h.lb _, h.lb⟩
def numS : Option Bs → Int × Option Bs
  | none => (0, none)
  | some l => match numD l with | none => (0, none) | some (n, r) => (n, some r)
def SGives (w0 w : World) (rb : Nat) (L : Bs) (v : Value) (s : Option Bs) (e : Ending) (w' : World) : Prop := e = .returned v ∧ Sd w0 w' rb L s ∧ Mv w w' rb
theorem Mv.set' (w : World) (rb j : Nat) (v : Value) : Mv w (w.setCell ⟨rb, j, none⟩ v) rb := grown_set w rb j v
theorem grown_dr (w : World) (n : Nat) (rb : Nat) : Mv w (w.drewN n) rb := ⟨rfl, rfl, rfl, Nat.le_refl _, fun _ _ _ => rfl⟩
theorem Sd.same {w0 w w' : World} {rb : Nat} {L : Bs} {s : Option Bs} (h : Sd w0 w rb L s) (h1 : w'.heap = w.heap) (h2 : Below w0.heap.size w0 w') : Sd w0 w' rb L s := by
  obtain ⟨A, cap, n, r⟩ := h.blk
  exact ⟨⟨A, cap, n, by rw [h1]; exact r⟩, h2, h.lb⟩
theorem Sd.drewN {w0 w : World} {rb j : Nat} {v : Value} {L : Bs} {s : Option Bs} (h : Sd w0 (w.setCell ⟨rb, j, none⟩ v) rb L s) (n : Nat) : Sd w0 ((w.drewN n).setCell ⟨rb, j, none⟩ v) rb L s :=
  h.same rfl ⟨h.bel.os, h.bel.tape, h.bel.output, h.bel.size, h.bel.block⟩
set_option maxRecDepth 100000 in
set_option maxHeartbeats 8000000 in
theorem qnumber_bad (w0 w : World) (rb : Nat) (L : Bs) (h : Sd w0 w rb L none) :
    Calls Try.prog 58 #[.pointer (some ⟨rb, 0, none⟩)] w (SGives w0 w rb L (.int .i64 0) none) := by
  obtain ⟨A, cap, n, h1, h2, h3, h4, h5, h6⟩ := h.blk
  obtain ⟨⟨c0, c1, c2⟩, z0, z1, z2⟩ := cells3' h1
  have HB := Lib.hid h.bad
  simp only [isBad] at c2
  clear h h1 h4 h6
  go_enter Try.func58, Try.ntmps58
  go_wp2_with fail
  go_loopw [3, 4] (fun s3 s4 wr => s3 = .int .u64 0 ∧ s4 = .int .i64 0 ∧ w = wr) (fun _ s4 _ => 10 - (intOf s4).toNat)
  case atStart => exact ⟨rfl, rfl, rfl⟩
  case round =>
    obtain ⟨rfl, rfl, rfl⟩ := hrel
    go_wp2_with fail
    go_quiet (fail)
    go_wp2
    go_ret
    exact ⟨rfl, HB.out.drewN _, (grown_dr _ _ _).trans (Mv.set' _ _ _ _)⟩
theorem sd_cons {w0 w : World} {rb : Nat} {L : Bs} {c : UInt8} {l : Bs} (h : Sd w0 w rb L (some (c :: l))) : ∃ g o cap, ∃ n : Nat, w.heap[rb]? = some (.cells #[.slice (some ⟨g, o, none⟩) L.length cap, .int .i64 (n : Int), .bool false] 67 (0, 0)) ∧ L.length ≤ cap ∧ cap ≤ maxLen ∧ n < L.length ∧ w.cell? ⟨g, o + n, none⟩ = some (u8v c) ∧ Sd w0 (w.setCell ⟨rb, 1, none⟩ (.int .i64 ((n : Int) + 1))) rb L (some l) := by
  obtain ⟨A, cap, n, h1, h2, h3, h4, h5, h6⟩ := h.blk
  have h7 := h6 _ rfl
  have hn : n < L.length := by
    have := congrArg List.length h7
    rw [List.length_drop, List.length_cons] at this
    omega
  obtain ⟨g, o, rfl, hh⟩ := h4.at (by omega)
  have hc : L[n] = c := by
    rw [List.drop_eq_getElem_cons hn] at h7
    injection h7 with e1 e2
    exact e1.symm
  have hl : l = L.drop (n + 1) := by
    rw [List.drop_eq_getElem_cons hn] at h7
    injection h7 with e1 e2
  have q := ((hh n hn).below h.bel).c0
  rw [Nat.mul_one, hc] at q
  refine ⟨g, o, cap, n, h1, h2, h3, hn, q, ⟨⟨some ⟨g, o, none⟩, cap, n + 1, ?_, h2, h3, h4, hn, fun m e => by cases e; exact hl⟩, h.bel.setCell (p := ⟨rb, 1, none⟩) h.lb _, h.lb⟩⟩
  simp [World.setCell, Array.getElem?_modify, h1, isBad]
theorem Sd.drewN2 {w0 w : World} {rb i j : Nat} {u v : Value} {L : Bs} {s : Option Bs} (h : Sd w0 ((w.setCell ⟨rb, i, none⟩ u).setCell ⟨rb, j, none⟩ v) rb L s) (n : Nat) : Sd w0 (((w.drewN n).setCell ⟨rb, i, none⟩ u).setCell ⟨rb, j, none⟩ v) rb L s :=
  h.same rfl ⟨h.bel.os, h.bel.tape, h.bel.output, h.bel.size, h.bel.block⟩
theorem spec_odd {U : Nat} (hU : U < 18446744073709551616) (h : U % 2 = 1) : wrap64 (bits BinOp.xor IntKind.u64 IntKind.u64.max ((U : Int) / 2)) = unzig U := by
  rw [not_u64 (by omega) (by omega)]
  unfold unzig wrap64
  rw [if_pos h]
  omega
theorem spec_sum {acc x i : Nat} (h1 : acc < 2 ^ (7 * i)) (hx : x < 128) (hi : i ≤ 8) : IntKind.u64.wrap ((acc : Int) + IntKind.u64.wrap ((x : Int) * 2 ^ (7 * i))) = ((acc + 2 ^ (7 * i) * x : Nat) : Int) ∧ acc + 2 ^ (7 * i) * x < 2 ^ (7 * (i + 1)) ∧ acc + 2 ^ (7 * i) * x < 18446744073709551616 := by
  have h2 : acc + 2 ^ (7 * i) * x < 2 ^ (7 * (i + 1)) := by
    have e : 2 ^ (7 * (i + 1)) = 2 ^ (7 * i) * 128 := by rw [Nat.mul_add, Nat.pow_add]
    have := Nat.mul_le_mul_left (2 ^ (7 * i)) (show x ≤ 127 by omega)
    omega
  have h3 : 2 ^ (7 * (i + 1)) ≤ 2 ^ 63 := Nat.pow_le_pow_right (by omega) (by omega)
  have h4 : acc + 2 ^ (7 * i) * x < 18446744073709551616 := by
    have : (2 : Nat) ^ 63 = 9223372036854775808 := by decide
    omega
  refine ⟨?_, h2, h4⟩
  have e : (x : Int) * 2 ^ (7 * i) = ((2 ^ (7 * i) * x : Nat) : Int) := by push_cast; rw [Int.mul_comm]
  rw [e, wrap_u64, wrap_u64]
  generalize 2 ^ (7 * i) * x = y at h4
  omega
set_option maxRecDepth 100000 in
set_option maxHeartbeats 16000000 in
theorem qnumber_ok (w0 w : World) (rb : Nat) (L l : Bs) (h : Sd w0 w rb L (some l)) :
    Calls Try.prog 58 #[.pointer (some ⟨rb, 0, none⟩)] w (SGives w0 w rb L (.int .i64 (numS (some l)).1) (numS (some l)).2) := by
  have H := Lib.hid h
  clear h
  go_enter Try.func58, Try.ntmps58
  go_wp2_with fail
  go_loopw [3, 4] (fun s3 s4 wr => ∃ (i acc : Nat) (li : Bs), s4 = .int .i64 (i : Int) ∧ s3 = .int .u64 (acc : Int) ∧ i ≤ 9 ∧ acc < 2 ^ (7 * i) ∧ GI l i acc li ∧ Sd w0 wr rb L (some li) ∧ Mv w wr rb) (fun _ s4 _ => 10 - (intOf s4).toNat)
  case atStart => exact ⟨0, 0, l, rfl, rfl, by omega, by omega, GI.start l, H.out, Mv.refl _ _⟩
  case round =>
    obtain ⟨i, acc, li, rfl, rfl, hi, hacc, hg, hr, hm⟩ := hrel
    have HG := Lib.hid hg
    have HR := Lib.hid hr
    have HM := Lib.hid hm
    have hi10 : (i : Int) < 10 := by omega
    have HBD := Lib.hid hr.bad
    clear hg hr hm
    cases li with
    | nil =>
      have HN : Hid (numS (some l) = (0, none)) := Lib.hid (by show (match numD l with | none => (0, none) | some (n, r) => (n, some r)) = _; rw [HG.out.stop])
      obtain ⟨A, cap, n, h1, h2, h3, h4, h5, h6⟩ := HR.out.blk
      have hn : L.length ≤ n := by
        have := congrArg List.length (h6 _ rfl)
        rw [List.length_drop] at this
        simp at this; omega
      have hge : (L.length : Int) ≤ (n : Int) := by omega
      have hge2 : decide ((L.length : Int) ≤ (n : Int)) = true := decide_eq_true hge
      obtain ⟨⟨c0, c1, c2⟩, z0, z1, z2⟩ := cells3' h1
      simp only [isBad] at c2
      clear h1 h4 h6 hacc
      go_wp2_with fail
      go_quiet (fail)
      go_wp2
      go_ret
      unfold SGives
      rw [HN.out]
      exact ⟨rfl, HBD.out.drewN _, (HM.out.trans (grown_dr _ _ _)).trans (Mv.set' _ _ _ _)⟩
    | cons c li =>
      obtain ⟨g, o, cap, n, h1, h2, h3, hn, q0, hS⟩ := sd_cons HR.out
      have hge2 : decide ((L.length : Int) ≤ (n : Int)) = false := by simp; omega
      have hn0 : (0 : Int) ≤ (n : Int) := by omega
      have hn1 : (n : Int) < (L.length : Int) := by omega
      unfold maxLen at h3
      obtain ⟨⟨c0, c1, c2⟩, z0, z1, z2⟩ := cells3' h1
      have HS := Lib.hid hS
      unfold u8v at q0
      clear h1 hS
      have hcb := c.toNat_lt
      by_cases h9 : i = 9
      · subst h9
        by_cases c1 : c.toNat = 1
        · have hx1 : (c.toNat : Int) = 1 := by omega
          obtain ⟨U, hU⟩ : ∃ U, acc + 2 ^ (7 * 9) * c.toNat = U := ⟨_, rfl⟩
          have HE : Hid (numS (some l) = (unzig U, some li)) := Lib.hid (by show (match numD l with | none => (0, none) | some (n, r) => (n, some r)) = _; rw [HG.out.last (by omega) (by omega), hU])
          have hU2 : acc + 9223372036854775808 = U := by rw [← hU, c1]
          have hUb : U < 18446744073709551616 := by simp at hacc; omega
          have hV : IntKind.u64.wrap ((acc : Int) + 9223372036854775808) = (U : Int) := by rw [wrap_u64]; omega
          clear hacc c1 hU hU2
          by_cases ho : U % 2 = 1
          · have hT : (U : Int).tmod 2 = 1 := by rw [Int.tmod_eq_emod_of_nonneg (by omega)]; omega
            have hR := ret_i64 (spec_odd hUb ho)
            have HRR := Lib.hid hR
            clear hR
            go_wp2_with fail
            go_quiet (fail)
            go_wp2_with fail
            go_quiet (fail)
            go_wp2
            go_ret
            unfold SGives
            rw [HE.out]
            exact ⟨HRR.out, HS.out.drewN _, (HM.out.trans (grown_dr _ _ _)).trans (Mv.set' _ _ _ _)⟩
          · have hT : (U : Int).tmod 2 = 0 := by rw [Int.tmod_eq_emod_of_nonneg (by omega)]; omega
            have hR := ret_i64 (unzig_even (by omega : U % 2 = 0))
            have HRR := Lib.hid hR
            clear hR
            go_wp2_with fail
            go_quiet (fail)
            go_wp2_with fail
            go_quiet (fail)
            go_wp2
            go_ret
            unfold SGives
            rw [HE.out]
            exact ⟨HRR.out, HS.out.drewN _, (HM.out.trans (grown_dr _ _ _)).trans (Mv.set' _ _ _ _)⟩
        · have HN : Hid (numS (some l) = (0, none)) := Lib.hid (by show (match numD l with | none => (0, none) | some (n, r) => (n, some r)) = _; rw [HG.out.bad (by omega)])
          by_cases c0' : c.toNat = 0
          · have hx1 : (c.toNat : Int) = 0 := by omega
            clear hacc c1 c0'
            go_wp2_with fail
            go_quiet (fail)
            go_wp2_with fail
            go_quiet (fail)
            go_wp2
            go_ret
            unfold SGives
            rw [HN.out]
            exact ⟨rfl, (HS.out.bad).drewN2 _, (HM.out.trans (grown_dr _ _ _)).trans ((Mv.set' _ _ _ _).trans (Mv.set' _ _ _ _))⟩
          · have hx1 : (1 : Int) < (c.toNat : Int) := by omega
            clear hacc c1 c0'
            go_wp2_with fail
            go_quiet (fail)
            go_wp2_with fail
            go_quiet (fail)
            go_wp2
            go_ret
            unfold SGives
            rw [HN.out]
            exact ⟨rfl, (HS.out.bad).drewN2 _, (HM.out.trans (grown_dr _ _ _)).trans ((Mv.set' _ _ _ _).trans (Mv.set' _ _ _ _))⟩
      · have hi8 : i ≤ 8 := by omega
        by_cases hb : 0 < i ∧ c.toNat = 0
        · have HN : Hid (numS (some l) = (0, none)) := Lib.hid (by show (match numD l with | none => (0, none) | some (n, r) => (n, some r)) = _; rw [HG.out.bad (by omega)])
          have hx1 : (c.toNat : Int) = 0 := by omega
          have hi0 := hb.1
          have hi0' : (0 : Int) < (i : Int) := by omega
          clear hacc hb
          go_wp2_with fail
          go_quiet (fail)
          go_wp2_with fail
          go_quiet (fail)
          go_wp2
          go_ret
          unfold SGives
          rw [HN.out]
          exact ⟨rfl, (HS.out.bad).drewN2 _, (HM.out.trans (grown_dr _ _ _)).trans ((Mv.set' _ _ _ _).trans (Mv.set' _ _ _ _))⟩
        · obtain ⟨U, hU⟩ : ∃ U, acc + 2 ^ (7 * i) * (c.toNat % 128) = U := ⟨_, rfl⟩
          have hU3 := spec_sum (acc := acc) (x := c.toNat % 128) (i := i) hacc (by omega) hi8
          rw [hU] at hU3
          obtain ⟨hV, hUb, hUc⟩ := hU3
          rw [show ((c.toNat % 128 : Nat) : Int) = (c.toNat : Int) % 128 by omega] at hV
          have hg : ((decide (0 < (i : Int))) && ((c.toNat : Int) == 0)) = false := by
            by_cases h0 : i = 0
            · subst h0; rfl
            · have : ((c.toNat : Int) == 0) = false := by simp; omega
              rw [this, Bool.and_false]
          by_cases hc : c.toNat < 128
          · have HE : Hid (numS (some l) = (unzig U, some li)) := Lib.hid (by show (match numD l with | none => (0, none) | some (n, r) => (n, some r)) = _; rw [HG.out.last (by omega) hc, ← hU, Nat.mod_eq_of_lt hc])
            have hc3 : (c.toNat : Int) < 128 := by omega
            by_cases h0 : i = 0
            · subst h0
              have hV0 : IntKind.u64.wrap ((acc : Int) + (c.toNat : Int) % 128) = (U : Int) := by rw [wrap_u64, ← hU]; simp at hacc; omega
              clear hacc hb hU hg hUb hV
              by_cases ho : U % 2 = 1
              · have hT : (U : Int).tmod 2 = 1 := by rw [Int.tmod_eq_emod_of_nonneg (by omega)]; omega
                have HRR := Lib.hid (ret_i64 (spec_odd hUc ho))
                go_wp2_with fail
                go_quiet (fail)
                go_wp2_with fail
                go_quiet (fail)
                go_wp2
                go_ret
                unfold SGives
                rw [HE.out]
                exact ⟨HRR.out, HS.out.drewN _, (HM.out.trans (grown_dr _ _ _)).trans (Mv.set' _ _ _ _)⟩
              · have hT : (U : Int).tmod 2 = 0 := by rw [Int.tmod_eq_emod_of_nonneg (by omega)]; omega
                have HRR := Lib.hid (ret_i64 (unzig_even (by omega : U % 2 = 0)))
                go_wp2_with fail
                go_quiet (fail)
                go_wp2_with fail
                go_quiet (fail)
                go_wp2
                go_ret
                unfold SGives
                rw [HE.out]
                exact ⟨HRR.out, HS.out.drewN _, (HM.out.trans (grown_dr _ _ _)).trans (Mv.set' _ _ _ _)⟩
            · have hi0 : 0 < i := by omega
              have hi0' : (0 : Int) < (i : Int) := by omega
              have hx1 : ((c.toNat : Int) == 0) = false := by simp; omega
              clear hacc hb hU hg hUb
              by_cases ho : U % 2 = 1
              · have hT : (U : Int).tmod 2 = 1 := by rw [Int.tmod_eq_emod_of_nonneg (by omega)]; omega
                have HRR := Lib.hid (ret_i64 (spec_odd hUc ho))
                go_wp2_with fail
                go_quiet (fail)
                go_wp2_with fail
                go_quiet (fail)
                go_wp2
                go_ret
                unfold SGives
                rw [HE.out]
                exact ⟨HRR.out, HS.out.drewN _, (HM.out.trans (grown_dr _ _ _)).trans (Mv.set' _ _ _ _)⟩
              · have hT : (U : Int).tmod 2 = 0 := by rw [Int.tmod_eq_emod_of_nonneg (by omega)]; omega
                have HRR := Lib.hid (ret_i64 (unzig_even (by omega : U % 2 = 0)))
                go_wp2_with fail
                go_quiet (fail)
                go_wp2_with fail
                go_quiet (fail)
                go_wp2
                go_ret
                unfold SGives
                rw [HE.out]
                exact ⟨HRR.out, HS.out.drewN _, (HM.out.trans (grown_dr _ _ _)).trans (Mv.set' _ _ _ _)⟩
          · have HE : Hid (GI l (i + 1) U li) := Lib.hid (by have := HG.out.more (by omega) hc; rw [show c.toNat - 128 = c.toNat % 128 by omega, hU] at this; exact this)
            have hc3 : (128 : Int) ≤ (c.toNat : Int) := by omega
            have HUB := Lib.hid hUb
            by_cases h0 : i = 0
            · subst h0
              have hV0 : IntKind.u64.wrap ((acc : Int) + (c.toNat : Int) % 128) = (U : Int) := by rw [wrap_u64, ← hU]; simp at hacc; omega
              clear hacc hb hU hg hUb hV
              go_wp2_with fail
              go_quiet (fail)
              go_wp2_with fail
              go_quiet (fail)
              go_wp2
              go_roundw
              case rel => exact ⟨0 + 1, U, li, by go_num, rfl, by omega, HUB.out, HE.out, HS.out.drewN _, (HM.out.trans (grown_dr _ _ _)).trans (Mv.set' _ _ _ _)⟩
              case measure => first | (simp [intOf]; done) | (simp [intOf]; omega)
            · have hi0 : 0 < i := by omega
              have hi0' : (0 : Int) < (i : Int) := by omega
              have hx1 : ((c.toNat : Int) == 0) = false := by simp; omega
              clear hacc hb hU hg hUb
              go_wp2_with fail
              go_quiet (fail)
              go_wp2_with fail
              go_quiet (fail)
              go_wp2
              go_roundw
              case rel => exact ⟨i + 1, U, li, by go_num, rfl, by omega, HUB.out, HE.out, HS.out.drewN _, (HM.out.trans (grown_dr _ _ _)).trans (Mv.set' _ _ _ _)⟩
              case measure => first | (simp [intOf]; done) | (simp [intOf]; omega)
theorem qnumber_any (w0 w : World) (rb : Nat) (L : Bs) (s : Option Bs) (h : Sd w0 w rb L s) :
    Calls Try.prog 58 #[.pointer (some ⟨rb, 0, none⟩)] w (SGives w0 w rb L (.int .i64 (numS s).1) (numS s).2) := by
  cases s with
  | none => exact qnumber_bad w0 w rb L h
  | some l => exact qnumber_ok w0 w rb L l h
end Go.Proofs.Ytlkaeonedijfpaa

namespace Go.Proofs.Ytlkaeonedijfpaa
open Go.RowKit C
def countS : Option Bs → Int × Option Bs
  | none => (0, none)
  | some l => match countD l with | none => (0, none) | some (n, r) => (n, some r)
theorem Sd.dN {w0 w : World} {rb : Nat} {L : Bs} {s : Option Bs} (h : Sd w0 w rb L s) (n : Nat) : Sd w0 (w.drewN n) rb L s :=
  h.same rfl ⟨h.bel.os, h.bel.tape, h.bel.output, h.bel.size, h.bel.block⟩
theorem countS_none {s : Option Bs} (h : (numS s).2 = none) : countS s = (0, none) ∧ (numS s).1 = 0 := by
  cases s with
  | none => exact ⟨rfl, rfl⟩
  | some l =>
    cases hn : numD l with
    | none => simp only [numS, countS, countD, hn, and_self]
    | some q => simp only [numS, hn] at h; cases h
theorem countS_some {s : Option Bs} {r : Bs} (h : (numS s).2 = some r) : countS s = if 0 ≤ (numS s).1 ∧ (numS s).1 ≤ (r.length : Int) then ((numS s).1, some r) else (0, none) := by
  cases s with
  | none => cases h
  | some l =>
    cases hn : numD l with
    | none => simp only [numS, hn] at h; cases h
    | some q =>
      obtain ⟨n, r'⟩ := q
      simp only [numS, hn, Option.some.injEq] at h
      subst h
      simp only [numS, countS, countD, hn]
      by_cases hb : n < 0 ∨ (r'.length : Int) < n
      · rw [if_pos hb, if_neg (by omega)]
      · rw [if_neg hb, if_pos (by omega)]
        simp only [Prod.mk.injEq, and_true]
        omega
set_option maxRecDepth 100000 in
set_option maxHeartbeats 8000000 in
theorem qcount_any (w0 w : World) (rb : Nat) (L : Bs) (s : Option Bs) (h : Sd w0 w rb L s) :
    Calls Try.prog 56 #[.pointer (some ⟨rb, 0, none⟩)] w (SGives w0 w rb L (.int .i64 (countS s).1) (countS s).2) := by
  have H1 := Lib.hid (qnumber_any w0 w rb L s h)
  clear h
  have HN : Hid ((numS s).2 = none → countS s = (0, none) ∧ (numS s).1 = 0) := Lib.hid countS_none
  have HS : Hid (∀ r, (numS s).2 = some r → countS s = if 0 ≤ (numS s).1 ∧ (numS s).1 ≤ (r.length : Int) then ((numS s).1, some r) else (0, none)) := Lib.hid fun r => countS_some
  obtain ⟨v, hv⟩ : ∃ v, (numS s).1 = v := ⟨_, rfl⟩
  obtain ⟨s1, hs1⟩ : ∃ s1, (numS s).2 = s1 := ⟨_, rfl⟩
  rw [hv] at H1 HN HS
  rw [hs1] at H1 HN HS
  clear hv hs1
  go_enter Try.func56, Try.ntmps56
  go_wp2_with fail
  refine H1.out.mono ?_
  rintro e w1 ⟨rfl, hr, hm⟩
  have HR := Lib.hid hr
  have HM := Lib.hid hm
  have HBD := Lib.hid hr.bad
  clear hr hm H1
  obtain ⟨A, cap, n, h1, h2, h3, h4, h5, h6⟩ := HR.out.blk
  obtain ⟨⟨c0, c1, c2⟩, z0, z1, z2⟩ := cells3' h1
  clear h1 h4
  cases s1 with
  | none =>
    obtain ⟨hc, rfl⟩ := HN.out rfl
    have HC := Lib.hid hc
    have hlt : decide ((L.length : Int) - (n : Int) < 0) = false := by simp; omega
    have hlt2 : ¬ (L.length : Int) - (n : Int) < 0 := by omega
    unfold maxLen at h3
    have hlt3 : wrap64 ((L.length : Int) - (n : Int)) = (L.length : Int) - (n : Int) := by unfold wrap64; omega
    clear hc h6
    go_wp2_with fail
    go_quiet (fail)
    go_wp2
    go_ret
    unfold SGives
    rw [HC.out]
    exact ⟨rfl, HR.out.dN _, HM.out.trans (grown_dr _ _ _)⟩
  | some r =>
    have hrl : (L.length : Int) - (n : Int) = (r.length : Int) := by
      have := congrArg List.length (h6 _ rfl)
      rw [List.length_drop] at this
      omega
    have hC := HS.out r rfl
    unfold maxLen at h3
    have hlt3 : wrap64 (r.length : Int) = (r.length : Int) := by unfold wrap64; omega
    by_cases hneg : v < 0
    · have HC : Hid (countS s = (0, none)) := Lib.hid (by rw [hC, if_neg (by omega)])
      clear hC h6
      go_wp2_with fail
      go_quiet (fail)
      go_wp2
      go_ret
      unfold SGives
      rw [HC.out]
      exact ⟨rfl, HBD.out.drewN _, (HM.out.trans (grown_dr _ _ _)).trans (Mv.set' _ _ _ _)⟩
    · have hneg2 : decide (v < 0) = false := by simp; omega
      by_cases hbig : (r.length : Int) < v
      · have HC : Hid (countS s = (0, none)) := Lib.hid (by rw [hC, if_neg (by omega)])
        clear hC h6
        go_wp2_with fail
        go_quiet (fail)
        go_wp2
        go_ret
        unfold SGives
        rw [HC.out]
        exact ⟨rfl, HBD.out.drewN _, (HM.out.trans (grown_dr _ _ _)).trans (Mv.set' _ _ _ _)⟩
      · have HC : Hid (countS s = (v, some r)) := Lib.hid (by rw [hC, if_pos (by omega)])
        have hbig2 : decide ((r.length : Int) < v) = false := by simp; omega
        clear hC h6
        go_wp2_with fail
        go_quiet (fail)
        go_wp2
        go_ret
        unfold SGives
        rw [HC.out]
        exact ⟨rfl, HR.out.dN _, HM.out.trans (grown_dr _ _ _)⟩
def textS : Option Bs → ByteArray × Option Bs
  | none => (⟨#[]⟩, none)
  | some l => match textD l with | none => (⟨#[]⟩, none) | some (t, r) => (t, some r)
theorem textS_none {s : Option Bs} (h : (countS s).2 = none) : textS s = (⟨#[]⟩, none) := by
  cases s with
  | none => rfl
  | some l =>
    cases hn : countD l with
    | none => simp only [textS, textD, hn]
    | some q => simp only [countS, hn] at h; cases h
theorem countD_le {l r : Bs} {n : Nat} (h : countD l = some (n, r)) : n ≤ r.length := by
  unfold countD at h
  cases hn : numD l with
  | none => rw [hn] at h; cases h
  | some q =>
    obtain ⟨x, r'⟩ := q
    rw [hn] at h
    simp only at h
    by_cases hb : x < 0 ∨ (r'.length : Int) < x
    · rw [if_pos hb] at h; cases h
    · rw [if_neg hb] at h
      simp only [Option.some.injEq, Prod.mk.injEq] at h
      obtain ⟨rfl, rfl⟩ := h
      omega
theorem textS_some {s : Option Bs} {r : Bs} (h : (countS s).2 = some r) : ∃ k : Nat, (countS s).1 = (k : Int) ∧ k ≤ r.length ∧ textS s = (⟨(r.take k).toArray⟩, some (r.drop k)) := by
  cases s with
  | none => cases h
  | some l =>
    cases hn : countD l with
    | none => simp only [countS, hn] at h; cases h
    | some q =>
      obtain ⟨n, r'⟩ := q
      simp only [countS, hn, Option.some.injEq] at h
      subst h
      refine ⟨n, by simp only [countS, hn], countD_le hn, by simp only [textS, textD, hn]⟩
theorem sd_skip {w0 w : World} {rb : Nat} {L r : Bs} (h : Sd w0 w rb L (some r)) {A : Option Addr} {cap n : Nat} (hb : w.heap[rb]? = some (.cells #[.slice A L.length cap, .int .i64 (n : Int), .bool false] 67 (0, 0))) (k : Nat) (hk : k ≤ r.length) : Sd w0 (w.setCell ⟨rb, 1, none⟩ (.int .i64 ((n : Int) + (k : Int)))) rb L (some (r.drop k)) := by
  obtain ⟨A', cap', n', h1, h2, h3, h4, h5, h6⟩ := h.blk
  rw [hb] at h1
  simp only [Option.some.injEq, Obj.cells.injEq, Array.mk.injEq, List.cons.injEq, Value.slice.injEq, Value.int.injEq, and_true, true_and] at h1
  obtain ⟨⟨e1, e2⟩, e3, _⟩ := h1
  have e3' : n = n' := by omega
  subst e1
  subst e2
  subst e3'
  have h7 := h6 _ rfl
  have hl := congrArg List.length h7
  rw [List.length_drop] at hl
  refine ⟨⟨A, cap, n + k, ?_, h2, h3, h4, by omega, fun m e => by cases e; rw [h7, List.drop_drop]⟩, h.bel.setCell (p := ⟨rb, 1, none⟩) h.lb _, h.lb⟩
  simp [World.setCell, Array.getElem?_modify, hb, isBad]
set_option maxRecDepth 100000 in
set_option maxHeartbeats 8000000 in
theorem qrtext_any (w0 w : World) (rb : Nat) (L : Bs) (s : Option Bs) (h : Sd w0 w rb L s) :
    Calls Try.prog 57 #[.pointer (some ⟨rb, 0, none⟩)] w (SGives w0 w rb L (.string (textS s).1) (textS s).2) := by
  have H1 := Lib.hid (qcount_any w0 w rb L s h)
  clear h
  cases hs1 : (countS s).2 with
  | none =>
    have HT := Lib.hid (textS_none hs1)
    rw [hs1] at H1
    clear hs1
    go_enter Try.func57, Try.ntmps57
    go_wp2_with fail
    refine H1.out.mono ?_
    rintro e w1 ⟨rfl, hr, hm⟩
    have HR := Lib.hid hr
    have HM := Lib.hid hm
    clear hr hm H1
    obtain ⟨A, cap, n, h1, h2, h3, h4, h5, h6⟩ := HR.out.blk
    obtain ⟨⟨c0, c1, c2⟩, z0, z1, z2⟩ := cells3' h1
    simp only [isBad] at c2
    clear h1 h4 h6
    go_wp2
    go_ret
    unfold SGives
    rw [HT.out]
    exact ⟨rfl, HR.out, HM.out⟩
  | some r =>
    obtain ⟨k, hk, hkr, ht⟩ := textS_some hs1
    have HT := Lib.hid ht
    rw [hs1, hk] at H1
    clear hs1 hk ht
    go_enter Try.func57, Try.ntmps57
    go_wp2_with fail
    refine H1.out.mono ?_
    rintro e w1 ⟨rfl, hr, hm⟩
    have HR := Lib.hid hr
    have HM := Lib.hid hm
    clear hr hm H1
    obtain ⟨A, cap, n, h1, h2, h3, h4, h5, h6⟩ := HR.out.blk
    have h7 := h6 _ rfl
    have hl := congrArg List.length h7
    rw [List.length_drop] at hl
    have hsk := sd_skip HR.out h1 k hkr
    have HSK := Lib.hid hsk
    have HH4 := Lib.hid h4
    have H7 := Lib.hid h7
    obtain ⟨⟨c0, c1, c2⟩, z0, z1, z2⟩ := cells3' h1
    simp only [isBad] at c2
    unfold maxLen at h3
    have hw : (n : Int) + (k : Int) ≤ 9223372036854775807 := by omega
    have hw0 : (0 : Int) ≤ (n : Int) + (k : Int) := by omega
    obtain ⟨T, hT⟩ : ∃ T, (⟨(r.take k).toArray⟩ : ByteArray) = T := ⟨_, rfl⟩
    have HX : Hid (textS s = (T, some (r.drop k))) := Lib.hid (by rw [HT.out, hT])
    have hrow : ∀ V, Below w0.heap.size w0 V → Row 1 (ByAt V) (if cap = n then A else A.map (·.add (n * 1))) (r.take k) := by
      intro V hV
      have h4' := h4.imp fun x g o (q : ByAt w0 x g o) => q.below hV
      by_cases hk0 : k = 0
      · subst hk0; exact .inl rfl
      · obtain ⟨g, o, rfl, _⟩ := h4'.at (by omega)
        rw [if_neg (by omega), h7]
        have := brow_take (brow_drop h4' n rfl) k
        simpa [addr_add] using this
    obtain ⟨AA, hAA⟩ : ∃ AA, (if cap = n then A else A.map (·.add (n * 1))) = AA := ⟨_, rfl⟩
    rw [hAA] at hrow
    have htl : (r.take k).length = k := by rw [List.length_take]; omega
    have hcv : ∀ V, Below w0.heap.size w0 V → (convert 22 9 (.slice AA k (cap - n))).run Try.prog V = .ok (.string T) V := fun V hV => by
      have := run_text V (cap := cap - n) htl (hrow V hV)
      rw [hT] at this; exact this
    have hcw : ∀ m, (convert 22 9 (.slice AA k (cap - n))).run Try.prog ((w1.drewN m).setCell ⟨rb, 1, none⟩ (.int .i64 ((n : Int) + (k : Int)))) = .ok (.string T) ((w1.drewN m).setCell ⟨rb, 1, none⟩ (.int .i64 ((n : Int) + (k : Int)))) := fun m => hcv _ (HSK.out.drewN m).bel
    have hcw2 : ∀ m, (convert 22 9 (.slice AA k (cap - n))).run Try.prog ((w1.setCell ⟨rb, 1, none⟩ (.int .i64 ((n : Int) + (k : Int)))).drewN m) = .ok (.string T) ((w1.setCell ⟨rb, 1, none⟩ (.int .i64 ((n : Int) + (k : Int)))).drewN m) := fun m => hcv _ (HSK.out.dN m).bel
    have hsl : ∀ V, (Instr.sliceAt 22 (.slice A L.length cap) (some (.int .i64 (n : Int))) (some (.int .i64 ((n : Int) + (k : Int)))) none).run Try.prog V = .ok (.slice AA k (cap - n)) V := by
      intro V
      have a1 : (0 : Int) ≤ (n : Int) := by omega
      have a2 : (n : Int) ≤ (n : Int) + (k : Int) := by omega
      have a3 : (n : Int) + (k : Int) ≤ (cap : Int) := by omega
      have a4 : n + k ≤ cap := by omega
      have a5 : ((n : Int) + (k : Int)).toNat = n + k := by omega
      rw [← hAA]
      simp [go_sem, a1, a2, a3, a4, a5, sliced]
    have hw2 : (n : Int) + (k : Int) - (k : Int) = (n : Int) := by omega
    clear h1 h4 h6 h7 hsk hT hrow hcv htl hAA HT
    go_wp2_with fail
    go_quiet (fail)
    go_wp2
    go_ret
    unfold SGives
    rw [HX.out]
    exact ⟨rfl, by first | exact HSK.out.drewN _ | exact HSK.out.dN _, by first | exact (HM.out.trans (grown_dr _ _ _)).trans (Mv.set' _ _ _ _) | exact (HM.out.trans (Mv.set' _ _ _ _)).trans (grown_dr _ _ _)⟩
end Go.Proofs.Ytlkaeonedijfpaa

namespace Go.Proofs.Ytlkaeonedijfpaa
open Go.RowKit C
structure Sim {α : Type} (d : Bs → Option (α × Bs)) (f : Option Bs → α × Option Bs) : Prop where
  yes : ∀ l x r, d l = some (x, r) → f (some l) = (x, some r)
  no : ∀ l, d l = none → (f (some l)).2 = none
  bad : (f none).2 = none
theorem sim_num : Sim numD numS := ⟨fun l x r h => by simp only [numS, h], fun l h => by simp only [numS, h], rfl⟩
theorem sim_text : Sim textD textS := ⟨fun l x r h => by simp only [textS, h], fun l h => by simp only [textS, h], rfl⟩
theorem count_yes {l r : Bs} {n : Nat} (h : countD l = some (n, r)) : countS (some l) = ((n : Int), some r) := by simp only [countS, h]
theorem count_no {l : Bs} (h : countD l = none) : countS (some l) = (0, none) := by simp only [countS, h]
def listS {α : Type} (f : Option Bs → α × Option Bs) : Nat → Option Bs → List α × Option Bs
  | 0, s => ([], s)
  | _ + 1, none => ([], none)
  | n + 1, some l => ((f (some l)).1 :: (listS f n (f (some l)).2).1, (listS f n (f (some l)).2).2)
theorem listS_bad {α : Type} (f : Option Bs → α × Option Bs) (n : Nat) : listS f n none = ([], none) := by cases n <;> rfl
theorem Sim.rep {α : Type} {d : Bs → Option (α × Bs)} {f : Option Bs → α × Option Bs} (h : Sim d f) (n : Nat) : Sim (repD d n) (listS f n) := by
  refine ⟨?_, ?_, by rw [listS_bad]⟩
  · induction n with
    | zero => intro l x r e; simp only [repD, Option.some.injEq, Prod.mk.injEq] at e; obtain ⟨rfl, rfl⟩ := e; rfl
    | succ n ih =>
      intro l x r e
      unfold repD at e
      cases hd : d l with
      | none => rw [hd] at e; cases e
      | some q =>
        obtain ⟨y, r1⟩ := q
        rw [hd] at e
        simp only at e
        cases hr : repD d n r1 with
        | none => rw [hr] at e; cases e
        | some q2 =>
          obtain ⟨ys, r2⟩ := q2
          rw [hr] at e
          simp only [Option.some.injEq, Prod.mk.injEq] at e
          obtain ⟨rfl, rfl⟩ := e
          simp only [listS, h.yes _ _ _ hd, ih _ _ _ hr]
  · induction n with
    | zero => intro l e; simp only [repD] at e; cases e
    | succ n ih =>
      intro l e
      unfold repD at e
      cases hd : d l with
      | none => simp only [listS]; rw [h.no _ hd, listS_bad]
      | some q =>
        obtain ⟨y, r1⟩ := q
        rw [hd] at e
        simp only at e
        simp only [listS]
        rw [h.yes _ _ _ hd]
        cases hr : repD d n r1 with
        | none => exact ih _ hr
        | some q2 => rw [hr] at e; cases e
def allS {α : Type} (f : Option Bs → α × Option Bs) (s : Option Bs) : List α × Option Bs := listS f (countS s).1.toNat (countS s).2
theorem Sim.all {α : Type} {d : Bs → Option (α × Bs)} {f : Option Bs → α × Option Bs} (h : Sim d f) : Sim (listD d) (allS f) := by
  refine ⟨fun l x r e => ?_, fun l e => ?_, rfl⟩
  · unfold listD at e
    cases hc : countD l with
    | none => rw [hc] at e; cases e
    | some q =>
      obtain ⟨n, r1⟩ := q
      rw [hc] at e
      unfold allS
      rw [count_yes hc]
      exact (h.rep n).yes _ _ _ e
  · unfold listD at e
    unfold allS
    cases hc : countD l with
    | none => rw [count_no hc]; rfl
    | some q =>
      obtain ⟨n, r1⟩ := q
      rw [hc] at e
      rw [count_yes hc]
      exact (h.rep n).no _ e
def glS (s : Option Bs) : Gl × Option Bs := (⟨(textS s).1, (numS (textS s).2).1⟩, (numS (textS s).2).2)
theorem sim_gl : Sim glD glS := by
  refine ⟨fun l x r e => ?_, fun l e => ?_, rfl⟩
  · unfold glD at e
    cases h1 : textD l with
    | none => rw [h1] at e; cases e
    | some q =>
      obtain ⟨a, r1⟩ := q
      rw [h1] at e
      simp only at e
      cases h2 : numD r1 with
      | none => rw [h2] at e; cases e
      | some q =>
        obtain ⟨b, r2⟩ := q
        rw [h2] at e
        simp only [Option.some.injEq, Prod.mk.injEq] at e
        obtain ⟨rfl, rfl⟩ := e
        simp only [glS, sim_text.yes _ _ _ h1, sim_num.yes _ _ _ h2]
  · unfold glD at e
    cases h1 : textD l with
    | none => simp only [glS]; rw [sim_text.no _ h1]; rfl
    | some q =>
      obtain ⟨a, r1⟩ := q
      rw [h1] at e
      simp only at e
      simp only [glS]
      rw [sim_text.yes _ _ _ h1]
      cases h2 : numD r1 with
      | none => exact sim_num.no _ h2
      | some q => rw [h2] at e; cases e
theorem sim_ly : Sim lyD (allS numS) := sim_num.all
def inS (a : Int) (s : Option Bs) : In × Option Bs :=
  (⟨(numS s).1, (numS (numS s).2).1, (numS (numS (numS s).2).2).1, (numS (numS (numS (numS s).2).2).2).1, wrap64 (a + (numS (numS (numS (numS (numS s).2).2).2).2).1)⟩, (numS (numS (numS (numS (numS s).2).2).2).2).2)
theorem numS_bad {s : Option Bs} (h : s = none) : (numS s).2 = none := by subst h; rfl
theorem sim_in (a : Int) : Sim (inD a) (inS a) := by
  refine ⟨fun l x r e => ?_, fun l e => ?_, rfl⟩
  · unfold inD at e
    cases h1 : numD l with
    | none => rw [h1] at e; cases e
    | some q =>
    obtain ⟨n1, r1⟩ := q
    rw [h1] at e; simp only at e
    cases h2 : numD r1 with
    | none => rw [h2] at e; cases e
    | some q =>
    obtain ⟨n2, r2⟩ := q
    rw [h2] at e; simp only at e
    cases h3 : numD r2 with
    | none => rw [h3] at e; cases e
    | some q =>
    obtain ⟨n3, r3⟩ := q
    rw [h3] at e; simp only at e
    cases h4 : numD r3 with
    | none => rw [h4] at e; cases e
    | some q =>
    obtain ⟨n4, r4⟩ := q
    rw [h4] at e; simp only at e
    cases h5 : numD r4 with
    | none => rw [h5] at e; cases e
    | some q =>
    obtain ⟨n5, r5⟩ := q
    rw [h5] at e
    simp only [Option.some.injEq, Prod.mk.injEq] at e
    obtain ⟨rfl, rfl⟩ := e
    simp only [inS, sim_num.yes _ _ _ h1, sim_num.yes _ _ _ h2, sim_num.yes _ _ _ h3, sim_num.yes _ _ _ h4, sim_num.yes _ _ _ h5]
  · unfold inD at e
    simp only [inS]
    cases h1 : numD l with
    | none => exact numS_bad (numS_bad (numS_bad (numS_bad (sim_num.no _ h1))))
    | some q =>
    obtain ⟨n1, r1⟩ := q
    rw [h1] at e; simp only at e
    rw [sim_num.yes _ _ _ h1]
    cases h2 : numD r1 with
    | none => exact numS_bad (numS_bad (numS_bad (sim_num.no _ h2)))
    | some q =>
    obtain ⟨n2, r2⟩ := q
    rw [h2] at e; simp only at e
    simp only [sim_num.yes _ _ _ h2]
    cases h3 : numD r2 with
    | none => exact numS_bad (numS_bad (sim_num.no _ h3))
    | some q =>
    obtain ⟨n3, r3⟩ := q
    rw [h3] at e; simp only at e
    simp only [sim_num.yes _ _ _ h3]
    cases h4 : numD r3 with
    | none => exact numS_bad (sim_num.no _ h4)
    | some q =>
    obtain ⟨n4, r4⟩ := q
    rw [h4] at e; simp only at e
    simp only [sim_num.yes _ _ _ h4]
    cases h5 : numD r4 with
    | none => exact sim_num.no _ h5
    | some q => rw [h5] at e; cases e
def codeS : Nat → Int → Option Bs → List In × Option Bs
  | 0, _, s => ([], s)
  | _ + 1, _, none => ([], none)
  | n + 1, a, some l => ((inS a (some l)).1 :: (codeS n (inS a (some l)).1.at' (inS a (some l)).2).1, (codeS n (inS a (some l)).1.at' (inS a (some l)).2).2)
theorem codeS_bad (n : Nat) (a : Int) : codeS n a none = ([], none) := by cases n <;> rfl
theorem sim_code (n : Nat) : ∀ a, Sim (codeD n a) (codeS n a) := by
  induction n with
  | zero => exact fun a => ⟨fun l x r e => by simp only [codeD, Option.some.injEq, Prod.mk.injEq] at e; obtain ⟨rfl, rfl⟩ := e; rfl, fun l e => (by simp only [codeD] at e; cases e), rfl⟩
  | succ n ih =>
    intro a
    refine ⟨fun l x r e => ?_, fun l e => ?_, rfl⟩
    · unfold codeD at e
      cases hd : inD a l with
      | none => rw [hd] at e; cases e
      | some q =>
        obtain ⟨y, r1⟩ := q
        rw [hd] at e
        simp only at e
        cases hr : codeD n y.at' r1 with
        | none => rw [hr] at e; cases e
        | some q2 =>
          obtain ⟨ys, r2⟩ := q2
          rw [hr] at e
          simp only [Option.some.injEq, Prod.mk.injEq] at e
          obtain ⟨rfl, rfl⟩ := e
          simp only [codeS, (sim_in a).yes _ _ _ hd, (ih _).yes _ _ _ hr]
    · unfold codeD at e
      cases hd : inD a l with
      | none => simp only [codeS]; rw [(sim_in a).no _ hd, codeS_bad]
      | some q =>
        obtain ⟨y, r1⟩ := q
        rw [hd] at e
        simp only at e
        simp only [codeS]
        rw [(sim_in a).yes _ _ _ hd]
        cases hr : codeD n y.at' r1 with
        | none => exact (ih _).no _ hr
        | some q2 => rw [hr] at e; cases e
theorem countS_bad {s : Option Bs} (h : s = none) : (countS s).2 = none := by subst h; rfl
def fnS (s : Option Bs) : Fc × Option Bs :=
  (⟨(textS s).1, (numS (textS s).2).1, (numS (numS (textS s).2).2).1, (codeS (countS (numS (numS (textS s).2).2).2).1.toNat 0 (countS (numS (numS (textS s).2).2).2).2).1⟩, (codeS (countS (numS (numS (textS s).2).2).2).1.toNat 0 (countS (numS (numS (textS s).2).2).2).2).2)
theorem codeS_no {n : Nat} {a : Int} {s : Option Bs} (h : s = none) : (codeS n a s).2 = none := by subst h; rw [codeS_bad]
theorem listS_no {α : Type} {f : Option Bs → α × Option Bs} {n : Nat} {s : Option Bs} (h : s = none) : (listS f n s).2 = none := by subst h; rw [listS_bad]
theorem sim_fn : Sim fnD fnS := by
  refine ⟨fun l x r e => ?_, fun l e => ?_, rfl⟩
  · unfold fnD at e
    cases h1 : textD l with
    | none => rw [h1] at e; cases e
    | some q =>
    obtain ⟨n1, r1⟩ := q
    rw [h1] at e; simp only at e
    cases h2 : numD r1 with
    | none => rw [h2] at e; cases e
    | some q =>
    obtain ⟨n2, r2⟩ := q
    rw [h2] at e; simp only at e
    cases h3 : numD r2 with
    | none => rw [h3] at e; cases e
    | some q =>
    obtain ⟨n3, r3⟩ := q
    rw [h3] at e; simp only at e
    cases h4 : countD r3 with
    | none => rw [h4] at e; cases e
    | some q =>
    obtain ⟨n4, r4⟩ := q
    rw [h4] at e; simp only at e
    cases h5 : codeD n4 0 r4 with
    | none => rw [h5] at e; cases e
    | some q =>
    obtain ⟨n5, r5⟩ := q
    rw [h5] at e
    simp only [Option.some.injEq, Prod.mk.injEq] at e
    obtain ⟨rfl, rfl⟩ := e
    simp only [fnS, sim_text.yes _ _ _ h1, sim_num.yes _ _ _ h2, sim_num.yes _ _ _ h3, count_yes h4, Int.toNat_natCast, (sim_code _ _).yes _ _ _ h5]
  · unfold fnD at e
    simp only [fnS]
    cases h1 : textD l with
    | none => exact codeS_no (countS_bad (numS_bad (numS_bad (sim_text.no _ h1))))
    | some q =>
    obtain ⟨n1, r1⟩ := q
    rw [h1] at e; simp only at e
    simp only [sim_text.yes _ _ _ h1]
    cases h2 : numD r1 with
    | none => exact codeS_no (countS_bad (numS_bad (sim_num.no _ h2)))
    | some q =>
    obtain ⟨n2, r2⟩ := q
    rw [h2] at e; simp only at e
    simp only [sim_num.yes _ _ _ h2]
    cases h3 : numD r2 with
    | none => exact codeS_no (countS_bad (sim_num.no _ h3))
    | some q =>
    obtain ⟨n3, r3⟩ := q
    rw [h3] at e; simp only at e
    simp only [sim_num.yes _ _ _ h3]
    cases h4 : countD r3 with
    | none => exact codeS_no (by rw [count_no h4])
    | some q =>
    obtain ⟨n4, r4⟩ := q
    rw [h4] at e; simp only at e
    simp only [count_yes h4, Int.toNat_natCast]
    cases h5 : codeD n4 0 r4 with
    | none => exact (sim_code _ _).no _ h5
    | some q => rw [h5] at e; cases e
def pgS (s : Option Bs) : Pg × Option Bs :=
  (⟨(allS fnS (allS (allS numS) (allS glS s).2).2).1, (allS glS s).1, (allS (allS numS) (allS glS s).2).1, (numS (allS fnS (allS (allS numS) (allS glS s).2).2).2).1⟩, (numS (allS fnS (allS (allS numS) (allS glS s).2).2).2).2)
theorem allS_no {α : Type} {f : Option Bs → α × Option Bs} {s : Option Bs} (h : s = none) : (allS f s).2 = none := by subst h; rfl
theorem sim_pg : Sim pgD pgS := by
  refine ⟨fun l x r e => ?_, fun l e => ?_, rfl⟩
  · unfold pgD at e
    cases h1 : listD glD l with
    | none => rw [h1] at e; cases e
    | some q =>
    obtain ⟨n1, r1⟩ := q
    rw [h1] at e; simp only at e
    cases h2 : listD lyD r1 with
    | none => rw [h2] at e; cases e
    | some q =>
    obtain ⟨n2, r2⟩ := q
    rw [h2] at e; simp only at e
    cases h3 : listD fnD r2 with
    | none => rw [h3] at e; cases e
    | some q =>
    obtain ⟨n3, r3⟩ := q
    rw [h3] at e; simp only at e
    cases h4 : numD r3 with
    | none => rw [h4] at e; cases e
    | some q =>
    obtain ⟨n4, r4⟩ := q
    rw [h4] at e
    simp only [Option.some.injEq, Prod.mk.injEq] at e
    obtain ⟨rfl, rfl⟩ := e
    simp only [pgS, sim_gl.all.yes _ _ _ h1, sim_ly.all.yes _ _ _ h2, sim_fn.all.yes _ _ _ h3, sim_num.yes _ _ _ h4]
  · unfold pgD at e
    simp only [pgS]
    cases h1 : listD glD l with
    | none => exact numS_bad (allS_no (allS_no (sim_gl.all.no _ h1)))
    | some q =>
    obtain ⟨n1, r1⟩ := q
    rw [h1] at e; simp only at e
    simp only [sim_gl.all.yes _ _ _ h1]
    cases h2 : listD lyD r1 with
    | none => exact numS_bad (allS_no (sim_ly.all.no _ h2))
    | some q =>
    obtain ⟨n2, r2⟩ := q
    rw [h2] at e; simp only at e
    simp only [sim_ly.all.yes _ _ _ h2]
    cases h3 : listD fnD r2 with
    | none => exact numS_bad (sim_fn.all.no _ h3)
    | some q =>
    obtain ⟨n3, r3⟩ := q
    rw [h3] at e; simp only at e
    simp only [sim_fn.all.yes _ _ _ h3]
    cases h4 : numD r3 with
    | none => exact sim_num.no _ h4
    | some q => rw [h4] at e; cases e
end Go.Proofs.Ytlkaeonedijfpaa
