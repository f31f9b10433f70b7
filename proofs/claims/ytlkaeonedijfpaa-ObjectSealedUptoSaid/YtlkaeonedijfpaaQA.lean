/-
  The specification's Encode.
  The program's reader: group, signed, number, count, text.
  The program's reader: count, text.
  Lists that are read: what stands in memory; the program's list of integers.
-/
import Derived.Test.YtlkaeonedijfpaaBH
import Derived.Laws.DeepNot64
import Derived.BigQuiet
import Derived.Laws.IdiomStrings
import Derived.Laws.BytesArg
set_option linter.all false
namespace Go.Proofs.Ytlkaeonedijfpaa
open Go.RowKit C
theorem own_weakB {base base' : Nat} {w : World} {v : Value} {l : Bs} (h : OwnB base w v l) (hb : base' ≤ base) : OwnB base' w v l := by
  refine ⟨h.1, ?_⟩
  rcases h.2 with h2 | ⟨g, cap, cur, e, hg, r⟩
  · exact .inl h2
  · exact .inr ⟨g, cap, cur, e, Nat.le_trans hb hg, r⟩
set_option maxRecDepth 100000 in
set_option maxHeartbeats 2000000 in
theorem qenc_no (p : Pg) (A B D : Option Addr) (ca cb cd : Nat) (w : World) (hp : PgAt w p A B D ca cb cd) (hv : validB p = false) :
    Calls Try.prog 15 #[pv p A B D ca cb cd] w (RetB w [] 1) := by
  have HV := Lib.hid (rvalid_any p A B D ca cb cd (w.alloc (.cells (pb p A B D ca cb cd) 31)) (hp.below (below1 _ _)))
  rw [hv] at HV
  have HN := Lib.hid (below1 w (.cells (pb p A B D ca cb cd) 31))
  clear hp hv
  go_enter Try.func15, Try.ntmps15
  go_wp2_with fail
  refine HV.out.mono ?_
  rintro e w1 ⟨rfl, hb1⟩
  have HB := Lib.hid (HN.out.trans (hb1.mono HN.out.size))
  clear hb1
  go_wp2
  go_ret2
  exact ⟨_, rfl, OwnB.nil _ _, HB.out⟩
set_option maxRecDepth 100000 in
set_option maxHeartbeats 2000000 in
theorem qenc_yes (p : Pg) (A B D : Option Addr) (ca cb cd : Nat) (w : World) (hp : PgAt w p A B D ca cb cd) (hb : Bk p) (hv : validB p = true) :
    Calls Try.prog 15 #[pv p A B D ca cb cd] w (RetB w (formE p) 0) := by
  have HV := Lib.hid (rvalid_any p A B D ca cb cd (w.alloc (.cells (pb p A B D ca cb cd) 31)) (hp.below (below1 _ _)))
  rw [hv] at HV
  have HN := Lib.hid (below1 w (.cells (pb p A B D ca cb cd) 31))
  have HNW := Lib.hid (heap_alloc_new w (.cells (pb p A B D ca cb cd) 31))
  have HP := Lib.hid hp
  have HB := Lib.hid hb
  clear hp hv hb
  go_enter Try.func15, Try.ntmps15
  go_wp2_with fail
  refine HV.out.mono ?_
  rintro e w1 ⟨rfl, hb1⟩
  have HB1 := Lib.hid (HN.out.trans (hb1.mono HN.out.size))
  have HBX : Hid (w1.heap[w.heap.size]? = _) := Lib.hid ((hb1.block w.heap.size (by simp)).trans HNW.out)
  clear hb1
  have H2 := Lib.hid (qbytes_any p A B D ca cb cd w1 (HP.out.below HB1.out) HB.out)
  obtain ⟨⟨c0, c1, c2, c3⟩, _⟩ := cells4 HBX.out
  go_wp2_with fail
  refine H2.out.mono ?_
  rintro e w2 ⟨v2, rfl, ho2, hb2⟩
  have HO : Hid (OwnB w.heap.size w2 v2 (formE p)) := Lib.hid (own_weakB ho2 HB1.out.size)
  have HB2 := Lib.hid (HB1.out.trans (hb2.mono HB1.out.size))
  clear ho2 hb2
  go_wp2
  go_ret2
  exact ⟨_, rfl, HO.out, HB2.out⟩
end Go.Proofs.Ytlkaeonedijfpaa

namespace Go.Proofs.Ytlkaeonedijfpaa
open Go.RowKit C
/-- The reader's box stands at the rest. -/
structure Rd (w0 w : World) (rb : Nat) (l : Bs) : Prop where
  blk : ∃ A cap, w.heap[rb]? = some (.cells #[.slice A l.length cap] 70 (0, 0)) ∧ l.length ≤ cap ∧ cap ≤ maxLen ∧ Row 1 (ByAt w0) A l
  bel : Below w0.heap.size w0 w
  lb : w0.heap.size ≤ rb
abbrev PE : Ending := .panicked [{ v := .iface 32 (.int .i64 8), recovered := false }]
theorem Rd.lt {w0 w : World} {rb : Nat} {l : Bs} (h : Rd w0 w rb l) : rb < w.heap.size := by
  obtain ⟨A, cap, hb, _⟩ := h.blk
  exact (Array.getElem?_eq_some_iff.1 hb).1
theorem Rd.set {w0 w : World} {rb : Nat} {l l' : Bs} {A : Option Addr} {cap : Nat} (h : Rd w0 w rb l) (hc : l'.length ≤ cap) (hm : cap ≤ maxLen) (hr : Row 1 (ByAt w0) A l') : Rd w0 (w.setCell ⟨rb, 0, none⟩ (.slice A l'.length cap)) rb l' := by
  obtain ⟨A0, cap0, hb, _⟩ := h.blk
  refine ⟨⟨A, cap, ?_, hc, hm, hr⟩, h.bel.grown (grown_set _ _ _ _) h.bel.size (fun k hk => by cases hk; exact h.lb), h.lb⟩
  simp [World.setCell, Array.getElem?_modify, hb]
/-- Only the reader has moved, and there may be new memory. -/
abbrev Mv (w w' : World) (rb : Nat) : Prop := w.grownBy w' (some rb)
theorem Mv.refl (w : World) (rb : Nat) : Mv w w rb := ⟨rfl, rfl, rfl, Nat.le_refl _, fun _ _ _ => rfl⟩
theorem Mv.trans {w w1 w2 : World} {rb : Nat} (h : Mv w w1 rb) (h1 : Mv w1 w2 rb) : Mv w w2 rb := grown_trans h h1 fun k hk => .inl hk
theorem Mv.alloc {w w1 : World} {rb : Nat} (h : Mv w w1 rb) (o : Obj) : Mv w (w1.alloc o) rb := h.trans (World.grownBy_alloc _ _ _)
theorem Mv.keep {w w' : World} {rb b : Nat} (h : Mv w w' rb) (hb : b < w.heap.size) (hne : b ≠ rb) : w'.heap[b]? = w.heap[b]? := h.block b hb (fun e => hne (by simpa using e))
theorem Rd.alloc {w0 w : World} {rb : Nat} {l : Bs} (h : Rd w0 w rb l) (o : Obj) : Rd w0 (w.alloc o) rb l := by
  obtain ⟨A, cap, hb, r⟩ := h.blk
  exact ⟨⟨A, cap, (heap_alloc_old w o (Array.getElem?_eq_some_iff.1 hb).1).trans hb, r⟩, h.bel.alloc h.bel.size o, h.lb⟩
/-- The rest has moved on, with a value; or the reading has panicked. -/
def Gives (w0 w : World) (rb : Nat) (o : Option (Value × Bs)) (e : Ending) (w' : World) : Prop :=
  match o with
  | some (v, l') => e = .returned v ∧ Rd w0 w' rb l' ∧ Mv w w' rb
  | none => e = PE ∧ Mv w w' rb
theorem row_tail {w : World} {A : Option Addr} {c : UInt8} {l : Bs} {g o : Nat} (h : Row 1 (ByAt w) (some ⟨g, o, none⟩) (c :: l)) : Row 1 (ByAt w) (some ⟨g, o + 1, none⟩) l := by
  obtain ⟨g', o', e, hh⟩ := h.at (by simp)
  cases e
  refine .inr ⟨g, o + 1, rfl, fun i hi => ?_⟩
  have := hh (i + 1) (by simpa using hi)
  rw [show o + 1 + i * 1 = o + (i + 1) * 1 by omega]
  simpa using this
set_option maxRecDepth 100000 in
set_option maxHeartbeats 1000000 in
theorem group_nil (w0 w : World) (rb : Nat) (h : Rd w0 w rb []) : Calls Try.prog 77 #[.pointer (some ⟨rb, 0, none⟩)] w fun e w' => e = PE ∧ w = w' := by
  obtain ⟨A, cap, hb, hc, hm, hr⟩ := h.blk
  have c0 : w.cell? ⟨rb, 0, none⟩ = some (.slice A 0 cap) := by simp [World.cell?, hb]
  clear hb hr h
  go_enter Try.func77, Try.ntmps77
  go_wp2
  exact ⟨rfl, rfl, rfl⟩
set_option maxRecDepth 100000 in
set_option maxHeartbeats 1000000 in
theorem group_cons (w0 w : World) (rb : Nat) (c : UInt8) (l : Bs) (h : Rd w0 w rb (c :: l)) : Calls Try.prog 77 #[.pointer (some ⟨rb, 0, none⟩)] w fun e w' => e = .returned (u8v c) ∧ Rd w0 w' rb l ∧ Mv w w' rb := by
  obtain ⟨A, cap, hb, hc, hm, hr⟩ := h.blk
  obtain ⟨g, o, rfl, hh⟩ := hr.at (by simp)
  have c0 : w.cell? ⟨rb, 0, none⟩ = some (.slice (some ⟨g, o, none⟩) (c :: l).length cap) := by simp [World.cell?, hb]
  have z0 : w.frozen? ⟨rb, 0, none⟩ = false := by simp [World.frozen?, hb]
  have q0 := ((hh 0 (by simp)).below h.bel).c0
  have ht := Lib.hid (row_tail (A := none) hr)
  rw [List.length_cons] at c0 hc
  simp only [Nat.zero_mul, Nat.add_zero, List.getElem_cons_zero, u8v] at q0
  have H := Lib.hid h
  have hMV := Lib.hid (grown_set w rb 0)
  unfold maxLen at hm
  have hl1 : l.length + 1 ≤ 9223372036854775807 := by omega
  clear hb hr h hh
  by_cases hcap : cap = 1
  · obtain rfl : l = [] := List.eq_nil_of_length_eq_zero (by omega)
    subst hcap
    go_enter Try.func77, Try.ntmps77
    go_wp2
    go_ret
    exact ⟨rfl, Rd.set (l' := []) H.out (by simp) (by unfold maxLen; omega) (.inl rfl), hMV.out _⟩
  · have hcap1 : 1 < cap := by omega
    go_enter Try.func77, Try.ntmps77
    go_wp2
    go_ret
    exact ⟨rfl, Rd.set H.out (by omega) (by unfold maxLen; omega) ht.out, hMV.out _⟩
theorem unzig_odd {u : Nat} (hu : u < 18446744073709551616) (h : u % 2 = 1) : bits BinOp.xor IntKind.i64 (-1) ((u : Int) / 2) = unzig u := by
  have := i64_not (u / 2) (by omega)
  rw [show ((u : Int) / 2) = ((u / 2 : Nat) : Int) by omega, this]
  unfold unzig
  rw [if_pos h]; omega
theorem unzig_even {u : Nat} (h : u % 2 = 0) : (u : Int) / 2 = unzig u := by
  unfold unzig
  rw [if_neg (by omega)]; omega
theorem ret_i64 {a b : Int} (h : a = b) : Ending.returned (.int .i64 a) = .returned (.int .i64 b) := by rw [h]
set_option maxRecDepth 100000 in
set_option maxHeartbeats 1000000 in
theorem signed_any (u : Nat) (hu : u < 18446744073709551616) (w : World) : Calls Try.prog 78 #[.int .u64 (u : Int)] w fun e w' => e = .returned (.int .i64 (unzig u)) ∧ w = w' := by
  have ha : bits BinOp.and IntKind.u64 (u : Int) 1 = (u : Int) % 2 := and_one_u64 _ (by omega) (by omega)
  by_cases h1 : u % 2 = 1
  · have h2 : (u : Int) % 2 = 1 := by omega
    go_enter Try.func78, Try.ntmps78
    go_wp2
    go_ret
    exact ⟨ret_i64 (unzig_odd hu h1), rfl⟩
  · have h2 : (u : Int) % 2 = 0 := by omega
    go_enter Try.func78, Try.ntmps78
    go_wp2
    go_ret
    exact ⟨ret_i64 (unzig_even (by omega)), rfl⟩
/-! ### a number -/
/-- What is still to be read, behind i groups of value acc. -/
def GI (l : Bs) (i acc : Nat) (li : Bs) : Prop := gD 0 l = match gD i li with | none => none | some (u, r) => some (acc + 2 ^ (7 * i) * u, r)
theorem GI.start (l : Bs) : GI l 0 0 l := by
  unfold GI
  cases gD 0 l with
  | none => rfl
  | some q => obtain ⟨u, r⟩ := q; simp
theorem GI.stop {l : Bs} {i acc : Nat} (h : GI l i acc []) : numD l = none := by
  unfold GI at h; unfold numD
  rw [h]; simp [gD]
theorem GI.bad {l li : Bs} {i acc : Nat} {c : UInt8} (h : GI l i acc (c :: li)) (hb : (0 < i ∧ c.toNat = 0) ∨ (9 ≤ i ∧ 1 < c.toNat)) : numD l = none := by
  unfold GI at h; unfold numD
  rw [h]; simp only [gD]; rw [if_pos hb]
theorem GI.last {l li : Bs} {i acc : Nat} {c : UInt8} (h : GI l i acc (c :: li)) (hb : ¬ ((0 < i ∧ c.toNat = 0) ∨ (9 ≤ i ∧ 1 < c.toNat))) (hc : c.toNat < 128) : numD l = some (unzig (acc + 2 ^ (7 * i) * c.toNat), li) := by
  unfold GI at h; unfold numD
  rw [h]; simp only [gD]; rw [if_neg hb, if_pos hc]
theorem GI.more {l li : Bs} {i acc : Nat} {c : UInt8} (h : GI l i acc (c :: li)) (hb : ¬ ((0 < i ∧ c.toNat = 0) ∨ (9 ≤ i ∧ 1 < c.toNat))) (hc : ¬ c.toNat < 128) : GI l (i + 1) (acc + 2 ^ (7 * i) * (c.toNat - 128)) li := by
  unfold GI at h ⊢
  rw [h]; simp only [gD]; rw [if_neg hb, if_neg hc]
  cases gD (i + 1) li with
  | none => rfl
  | some q =>
    obtain ⟨u, r⟩ := q
    simp only [Option.some.injEq, Prod.mk.injEq, and_true]
    rw [show 7 * (i + 1) = 7 * i + 7 by omega, Nat.pow_add]
    rw [show (2 : Nat) ^ 7 = 128 by decide, Nat.mul_add, Nat.mul_assoc]; omega
theorem or_shift {acc x k : Nat} (h : acc < 2 ^ k) (hb : acc + 2 ^ k * x < 18446744073709551616) (hx : 2 ^ k * x < 18446744073709551616) : bits BinOp.or IntKind.u64 (acc : Int) ((2 ^ k * x : Nat) : Int) = ((acc + 2 ^ k * x : Nat) : Int) := by
  rw [u64_or_nat _ _ (by omega) hx, Nat.or_comm, ← Nat.two_pow_add_eq_or_of_lt h, Nat.add_comm]
theorem and_127 (c : UInt8) : bits BinOp.and IntKind.u8 ((c.toNat : Nat) : Int) 127 = ((c.toNat % 128 : Nat) : Int) := by
  have hc := c.toNat_lt
  rw [show (127 : Int) = ((127 : Nat) : Int) by rfl, u8_and_nat _ _ (by omega) (by omega)]
  have : c.toNat &&& (2 ^ 7 - 1) = c.toNat % 2 ^ 7 := Nat.and_two_pow_sub_one_eq_mod _ _
  exact congrArg _ this
set_option maxRecDepth 100000 in
set_option maxHeartbeats 8000000 in
theorem onumber_gives (w0 w : World) (rb : Nat) (l : Bs) (h : Rd w0 w rb l) :
    Calls Try.prog 66 #[.pointer (some ⟨rb, 0, none⟩)] w (Gives w0 w rb ((numD l).map fun q => (.int .i64 q.1, q.2))) := by
  have H := Lib.hid h
  clear h
  go_enter Try.func66, Try.ntmps66
  go_wp2_with fail
  go_loopw [3, 4] (fun s3 s4 wr => ∃ (i acc : Nat) (li : Bs), s4 = .int .i64 ((7 * i : Nat) : Int) ∧ s3 = .int .u64 (acc : Int) ∧ i ≤ 9 ∧ acc < 2 ^ (7 * i) ∧ GI l i acc li ∧ Rd w0 wr rb li ∧ Mv w wr rb) (fun _ s4 _ => 70 - (intOf s4).toNat)
  case atStart => exact ⟨0, 0, l, rfl, rfl, by omega, by omega, GI.start l, H.out, Mv.refl _ _⟩
  case round =>
    obtain ⟨i, acc, li, rfl, rfl, hi, hacc, hg, hr, hm⟩ := hrel
    have HG := Lib.hid hg
    have HR := Lib.hid hr
    have HM := Lib.hid hm
    clear hg hr hm
    cases li with
    | nil =>
      have HN : Hid (numD l = none) := Lib.hid HG.out.stop
      go_wp2_with fail
      refine (group_nil w0 wr rb HR.out).mono ?_
      rintro e w1 ⟨rfl, rfl⟩
      go_wp2
      exact ⟨rfl, by rw [HN.out]; exact ⟨rfl, HM.out⟩⟩
    | cons c li =>
      have H1 := Lib.hid (group_cons w0 wr rb c li HR.out)
      have hcb := c.toNat_lt
      rcases (show i = 0 ∨ i = 1 ∨ i = 2 ∨ i = 3 ∨ i = 4 ∨ i = 5 ∨ i = 6 ∨ i = 7 ∨ i = 8 ∨ i = 9 by omega) with rfl | rfl | rfl | rfl | rfl | rfl | rfl | rfl | rfl | rfl
      -- group 0
      · obtain rfl : acc = 0 := by simpa using hacc
        have h127 := and_127 c
        obtain ⟨x, hx⟩ : ∃ x, c.toNat % 128 = x := ⟨_, rfl⟩
        rw [hx] at h127
        have hx2 : x < 128 := by omega
        have hb : ¬ ((0 < 0 ∧ c.toNat = 0) ∨ (9 ≤ 0 ∧ 1 < c.toNat)) := by omega
        have hor : bits BinOp.or IntKind.u64 0 (x : Int) = (x : Int) := by
          have := or_shift (acc := 0) (x := x) (k := 0) (by decide) (by simp; omega) (by simp; omega)
          simpa using this
        by_cases hc : c.toNat < 128
        · have HE : Hid (numD l = some (unzig x, li)) := Lib.hid (by have := HG.out.last hb hc; rw [this, ← hx, Nat.mod_eq_of_lt hc]; simp)
          have hc3 : (c.toNat : Int) < 128 := by omega
          have hsz : x < 18446744073709551616 := by omega
          clear hb hx hacc
          go_wp2_with fail
          refine H1.out.mono ?_
          rintro e w1 ⟨rfl, hr1, hm1⟩
          have HR1 := Lib.hid hr1
          have HM1 := Lib.hid (HM.out.trans hm1)
          clear hr1 hm1
          unfold u8v
          go_wp2_with fail
          refine (signed_any _ hsz w1).mono ?_
          rintro e w2 ⟨rfl, rfl⟩
          go_wp2
          go_ret
          rw [HE.out]
          exact ⟨rfl, HR1.out, HM1.out⟩
        · have HE : Hid (GI l 1 x li) := Lib.hid (by have := HG.out.more hb hc; simp only [Nat.mul_zero, Nat.pow_zero, Nat.one_mul, Nat.zero_add] at this; rw [show x = c.toNat - 128 by omega]; exact this)
          have hc3 : (128 : Int) ≤ (c.toNat : Int) := by omega
          clear hb hx hacc
          go_wp2_with fail
          refine H1.out.mono ?_
          rintro e w1 ⟨rfl, hr1, hm1⟩
          have HR1 := Lib.hid hr1
          have HM1 := Lib.hid (HM.out.trans hm1)
          clear hr1 hm1
          unfold u8v
          go_wp2
          go_roundw
          case rel => exact ⟨1, x, li, rfl, rfl, by omega, by omega, HE.out, HR1.out, HM1.out⟩
          case measure => simp [intOf]
      -- group 1
      · have hK : acc < 128 := by simpa using hacc
        have h127 := and_127 c
        obtain ⟨x, hx⟩ : ∃ x, c.toNat % 128 = x := ⟨_, rfl⟩
        rw [hx] at h127
        have hx2 : x < 128 := by omega
        by_cases hb : (0 < 1 ∧ c.toNat = 0) ∨ (9 ≤ 1 ∧ 1 < c.toNat)
        · have hc0 : ((c.toNat : Int) == 0) = true := by simp; omega
          have HN : Hid (numD l = none) := Lib.hid (HG.out.bad hb)
          clear hb
          go_wp2_with fail
          refine H1.out.mono ?_
          rintro e w1 ⟨rfl, hr1, hm1⟩
          have HM1 := Lib.hid (HM.out.trans hm1)
          clear hr1 hm1
          unfold u8v
          go_wp2
          exact ⟨rfl, by rw [HN.out]; exact ⟨rfl, HM1.out⟩⟩
        · have hc1 : ((c.toNat : Int) == 0) = false := by simp; omega
          have hor : bits BinOp.or IntKind.u64 (acc : Int) ((x : Int) * 128) = ((acc + 128 * x : Nat) : Int) := by
            have := or_shift (acc := acc) (x := x) (k := 7) (by simpa using hK) (by simp; omega) (by simp; omega)
            simp only [Nat.reducePow] at this
            rw [← this]; congr 1; omega
          by_cases hc : c.toNat < 128
          · have HE : Hid (numD l = some (unzig (acc + 128 * x), li)) := Lib.hid (by have := HG.out.last hb hc; simp only [Nat.reduceMul, Nat.reducePow] at this; rw [this, ← hx, Nat.mod_eq_of_lt hc])
            have hc3 : (c.toNat : Int) < 128 := by omega
            have hsz : acc + 128 * x < 18446744073709551616 := by omega
            clear hb hx hx2
            go_wp2_with fail
            refine H1.out.mono ?_
            rintro e w1 ⟨rfl, hr1, hm1⟩
            have HR1 := Lib.hid hr1
            have HM1 := Lib.hid (HM.out.trans hm1)
            clear hr1 hm1
            unfold u8v
            go_wp2_with fail
            refine (signed_any _ hsz w1).mono ?_
            rintro e w2 ⟨rfl, rfl⟩
            go_wp2
            go_ret
            rw [HE.out]
            exact ⟨rfl, HR1.out, HM1.out⟩
          · have HE : Hid (GI l 2 (acc + 128 * x) li) := Lib.hid (by have := HG.out.more hb hc; simp only [Nat.reduceMul, Nat.reducePow, Nat.reduceAdd] at this; rw [show x = c.toNat - 128 by omega]; exact this)
            have hc3 : (128 : Int) ≤ (c.toNat : Int) := by omega
            have hsz : acc + 128 * x < 16384 := by omega
            clear hb hx
            go_wp2_with fail
            refine H1.out.mono ?_
            rintro e w1 ⟨rfl, hr1, hm1⟩
            have HR1 := Lib.hid hr1
            have HM1 := Lib.hid (HM.out.trans hm1)
            clear hr1 hm1
            unfold u8v
            go_wp2
            go_roundw
            case rel => exact ⟨2, acc + 128 * x, li, rfl, rfl, by omega, by simpa using hsz, HE.out, HR1.out, HM1.out⟩
            case measure => simp [intOf]
      -- group 2
      · have hK : acc < 16384 := by simpa using hacc
        have h127 := and_127 c
        obtain ⟨x, hx⟩ : ∃ x, c.toNat % 128 = x := ⟨_, rfl⟩
        rw [hx] at h127
        have hx2 : x < 128 := by omega
        by_cases hb : (0 < 2 ∧ c.toNat = 0) ∨ (9 ≤ 2 ∧ 1 < c.toNat)
        · have hc0 : ((c.toNat : Int) == 0) = true := by simp; omega
          have HN : Hid (numD l = none) := Lib.hid (HG.out.bad hb)
          clear hb
          go_wp2_with fail
          refine H1.out.mono ?_
          rintro e w1 ⟨rfl, hr1, hm1⟩
          have HM1 := Lib.hid (HM.out.trans hm1)
          clear hr1 hm1
          unfold u8v
          go_wp2
          exact ⟨rfl, by rw [HN.out]; exact ⟨rfl, HM1.out⟩⟩
        · have hc1 : ((c.toNat : Int) == 0) = false := by simp; omega
          have hor : bits BinOp.or IntKind.u64 (acc : Int) ((x : Int) * 16384) = ((acc + 16384 * x : Nat) : Int) := by
            have := or_shift (acc := acc) (x := x) (k := 14) (by simpa using hK) (by simp; omega) (by simp; omega)
            simp only [Nat.reducePow] at this
            rw [← this]; congr 1; omega
          by_cases hc : c.toNat < 128
          · have HE : Hid (numD l = some (unzig (acc + 16384 * x), li)) := Lib.hid (by have := HG.out.last hb hc; simp only [Nat.reduceMul, Nat.reducePow] at this; rw [this, ← hx, Nat.mod_eq_of_lt hc])
            have hc3 : (c.toNat : Int) < 128 := by omega
            have hsz : acc + 16384 * x < 18446744073709551616 := by omega
            clear hb hx hx2
            go_wp2_with fail
            refine H1.out.mono ?_
            rintro e w1 ⟨rfl, hr1, hm1⟩
            have HR1 := Lib.hid hr1
            have HM1 := Lib.hid (HM.out.trans hm1)
            clear hr1 hm1
            unfold u8v
            go_wp2_with fail
            refine (signed_any _ hsz w1).mono ?_
            rintro e w2 ⟨rfl, rfl⟩
            go_wp2
            go_ret
            rw [HE.out]
            exact ⟨rfl, HR1.out, HM1.out⟩
          · have HE : Hid (GI l 3 (acc + 16384 * x) li) := Lib.hid (by have := HG.out.more hb hc; simp only [Nat.reduceMul, Nat.reducePow, Nat.reduceAdd] at this; rw [show x = c.toNat - 128 by omega]; exact this)
            have hc3 : (128 : Int) ≤ (c.toNat : Int) := by omega
            have hsz : acc + 16384 * x < 2097152 := by omega
            clear hb hx
            go_wp2_with fail
            refine H1.out.mono ?_
            rintro e w1 ⟨rfl, hr1, hm1⟩
            have HR1 := Lib.hid hr1
            have HM1 := Lib.hid (HM.out.trans hm1)
            clear hr1 hm1
            unfold u8v
            go_wp2
            go_roundw
            case rel => exact ⟨3, acc + 16384 * x, li, rfl, rfl, by omega, by simpa using hsz, HE.out, HR1.out, HM1.out⟩
            case measure => simp [intOf]
      -- group 3
      · have hK : acc < 2097152 := by simpa using hacc
        have h127 := and_127 c
        obtain ⟨x, hx⟩ : ∃ x, c.toNat % 128 = x := ⟨_, rfl⟩
        rw [hx] at h127
        have hx2 : x < 128 := by omega
        by_cases hb : (0 < 3 ∧ c.toNat = 0) ∨ (9 ≤ 3 ∧ 1 < c.toNat)
        · have hc0 : ((c.toNat : Int) == 0) = true := by simp; omega
          have HN : Hid (numD l = none) := Lib.hid (HG.out.bad hb)
          clear hb
          go_wp2_with fail
          refine H1.out.mono ?_
          rintro e w1 ⟨rfl, hr1, hm1⟩
          have HM1 := Lib.hid (HM.out.trans hm1)
          clear hr1 hm1
          unfold u8v
          go_wp2
          exact ⟨rfl, by rw [HN.out]; exact ⟨rfl, HM1.out⟩⟩
        · have hc1 : ((c.toNat : Int) == 0) = false := by simp; omega
          have hor : bits BinOp.or IntKind.u64 (acc : Int) ((x : Int) * 2097152) = ((acc + 2097152 * x : Nat) : Int) := by
            have := or_shift (acc := acc) (x := x) (k := 21) (by simpa using hK) (by simp; omega) (by simp; omega)
            simp only [Nat.reducePow] at this
            rw [← this]; congr 1; omega
          by_cases hc : c.toNat < 128
          · have HE : Hid (numD l = some (unzig (acc + 2097152 * x), li)) := Lib.hid (by have := HG.out.last hb hc; simp only [Nat.reduceMul, Nat.reducePow] at this; rw [this, ← hx, Nat.mod_eq_of_lt hc])
            have hc3 : (c.toNat : Int) < 128 := by omega
            have hsz : acc + 2097152 * x < 18446744073709551616 := by omega
            clear hb hx hx2
            go_wp2_with fail
            refine H1.out.mono ?_
            rintro e w1 ⟨rfl, hr1, hm1⟩
            have HR1 := Lib.hid hr1
            have HM1 := Lib.hid (HM.out.trans hm1)
            clear hr1 hm1
            unfold u8v
            go_wp2_with fail
            refine (signed_any _ hsz w1).mono ?_
            rintro e w2 ⟨rfl, rfl⟩
            go_wp2
            go_ret
            rw [HE.out]
            exact ⟨rfl, HR1.out, HM1.out⟩
          · have HE : Hid (GI l 4 (acc + 2097152 * x) li) := Lib.hid (by have := HG.out.more hb hc; simp only [Nat.reduceMul, Nat.reducePow, Nat.reduceAdd] at this; rw [show x = c.toNat - 128 by omega]; exact this)
            have hc3 : (128 : Int) ≤ (c.toNat : Int) := by omega
            have hsz : acc + 2097152 * x < 268435456 := by omega
            clear hb hx
            go_wp2_with fail
            refine H1.out.mono ?_
            rintro e w1 ⟨rfl, hr1, hm1⟩
            have HR1 := Lib.hid hr1
            have HM1 := Lib.hid (HM.out.trans hm1)
            clear hr1 hm1
            unfold u8v
            go_wp2
            go_roundw
            case rel => exact ⟨4, acc + 2097152 * x, li, rfl, rfl, by omega, by simpa using hsz, HE.out, HR1.out, HM1.out⟩
            case measure => simp [intOf]
      -- group 4
      · have hK : acc < 268435456 := by simpa using hacc
        have h127 := and_127 c
        obtain ⟨x, hx⟩ : ∃ x, c.toNat % 128 = x := ⟨_, rfl⟩
        rw [hx] at h127
        have hx2 : x < 128 := by omega
        by_cases hb : (0 < 4 ∧ c.toNat = 0) ∨ (9 ≤ 4 ∧ 1 < c.toNat)
        · have hc0 : ((c.toNat : Int) == 0) = true := by simp; omega
          have HN : Hid (numD l = none) := Lib.hid (HG.out.bad hb)
          clear hb
          go_wp2_with fail
          refine H1.out.mono ?_
          rintro e w1 ⟨rfl, hr1, hm1⟩
          have HM1 := Lib.hid (HM.out.trans hm1)
          clear hr1 hm1
          unfold u8v
          go_wp2
          exact ⟨rfl, by rw [HN.out]; exact ⟨rfl, HM1.out⟩⟩
        · have hc1 : ((c.toNat : Int) == 0) = false := by simp; omega
          have hor : bits BinOp.or IntKind.u64 (acc : Int) ((x : Int) * 268435456) = ((acc + 268435456 * x : Nat) : Int) := by
            have := or_shift (acc := acc) (x := x) (k := 28) (by simpa using hK) (by simp; omega) (by simp; omega)
            simp only [Nat.reducePow] at this
            rw [← this]; congr 1; omega
          by_cases hc : c.toNat < 128
          · have HE : Hid (numD l = some (unzig (acc + 268435456 * x), li)) := Lib.hid (by have := HG.out.last hb hc; simp only [Nat.reduceMul, Nat.reducePow] at this; rw [this, ← hx, Nat.mod_eq_of_lt hc])
            have hc3 : (c.toNat : Int) < 128 := by omega
            have hsz : acc + 268435456 * x < 18446744073709551616 := by omega
            clear hb hx hx2
            go_wp2_with fail
            refine H1.out.mono ?_
            rintro e w1 ⟨rfl, hr1, hm1⟩
            have HR1 := Lib.hid hr1
            have HM1 := Lib.hid (HM.out.trans hm1)
            clear hr1 hm1
            unfold u8v
            go_wp2_with fail
            refine (signed_any _ hsz w1).mono ?_
            rintro e w2 ⟨rfl, rfl⟩
            go_wp2
            go_ret
            rw [HE.out]
            exact ⟨rfl, HR1.out, HM1.out⟩
          · have HE : Hid (GI l 5 (acc + 268435456 * x) li) := Lib.hid (by have := HG.out.more hb hc; simp only [Nat.reduceMul, Nat.reducePow, Nat.reduceAdd] at this; rw [show x = c.toNat - 128 by omega]; exact this)
            have hc3 : (128 : Int) ≤ (c.toNat : Int) := by omega
            have hsz : acc + 268435456 * x < 34359738368 := by omega
            clear hb hx
            go_wp2_with fail
            refine H1.out.mono ?_
            rintro e w1 ⟨rfl, hr1, hm1⟩
            have HR1 := Lib.hid hr1
            have HM1 := Lib.hid (HM.out.trans hm1)
            clear hr1 hm1
            unfold u8v
            go_wp2
            go_roundw
            case rel => exact ⟨5, acc + 268435456 * x, li, rfl, rfl, by omega, by simpa using hsz, HE.out, HR1.out, HM1.out⟩
            case measure => simp [intOf]
      -- group 5
      · have hK : acc < 34359738368 := by simpa using hacc
        have h127 := and_127 c
        obtain ⟨x, hx⟩ : ∃ x, c.toNat % 128 = x := ⟨_, rfl⟩
        rw [hx] at h127
        have hx2 : x < 128 := by omega
        by_cases hb : (0 < 5 ∧ c.toNat = 0) ∨ (9 ≤ 5 ∧ 1 < c.toNat)
        · have hc0 : ((c.toNat : Int) == 0) = true := by simp; omega
          have HN : Hid (numD l = none) := Lib.hid (HG.out.bad hb)
          clear hb
          go_wp2_with fail
          refine H1.out.mono ?_
          rintro e w1 ⟨rfl, hr1, hm1⟩
          have HM1 := Lib.hid (HM.out.trans hm1)
          clear hr1 hm1
          unfold u8v
          go_wp2
          exact ⟨rfl, by rw [HN.out]; exact ⟨rfl, HM1.out⟩⟩
        · have hc1 : ((c.toNat : Int) == 0) = false := by simp; omega
          have hor : bits BinOp.or IntKind.u64 (acc : Int) ((x : Int) * 34359738368) = ((acc + 34359738368 * x : Nat) : Int) := by
            have := or_shift (acc := acc) (x := x) (k := 35) (by simpa using hK) (by simp; omega) (by simp; omega)
            simp only [Nat.reducePow] at this
            rw [← this]; congr 1; omega
          by_cases hc : c.toNat < 128
          · have HE : Hid (numD l = some (unzig (acc + 34359738368 * x), li)) := Lib.hid (by have := HG.out.last hb hc; simp only [Nat.reduceMul, Nat.reducePow] at this; rw [this, ← hx, Nat.mod_eq_of_lt hc])
            have hc3 : (c.toNat : Int) < 128 := by omega
            have hsz : acc + 34359738368 * x < 18446744073709551616 := by omega
            clear hb hx hx2
            go_wp2_with fail
            refine H1.out.mono ?_
            rintro e w1 ⟨rfl, hr1, hm1⟩
            have HR1 := Lib.hid hr1
            have HM1 := Lib.hid (HM.out.trans hm1)
            clear hr1 hm1
            unfold u8v
            go_wp2_with fail
            refine (signed_any _ hsz w1).mono ?_
            rintro e w2 ⟨rfl, rfl⟩
            go_wp2
            go_ret
            rw [HE.out]
            exact ⟨rfl, HR1.out, HM1.out⟩
          · have HE : Hid (GI l 6 (acc + 34359738368 * x) li) := Lib.hid (by have := HG.out.more hb hc; simp only [Nat.reduceMul, Nat.reducePow, Nat.reduceAdd] at this; rw [show x = c.toNat - 128 by omega]; exact this)
            have hc3 : (128 : Int) ≤ (c.toNat : Int) := by omega
            have hsz : acc + 34359738368 * x < 4398046511104 := by omega
            clear hb hx
            go_wp2_with fail
            refine H1.out.mono ?_
            rintro e w1 ⟨rfl, hr1, hm1⟩
            have HR1 := Lib.hid hr1
            have HM1 := Lib.hid (HM.out.trans hm1)
            clear hr1 hm1
            unfold u8v
            go_wp2
            go_roundw
            case rel => exact ⟨6, acc + 34359738368 * x, li, rfl, rfl, by omega, by simpa using hsz, HE.out, HR1.out, HM1.out⟩
            case measure => simp [intOf]
      -- group 6
      · have hK : acc < 4398046511104 := by simpa using hacc
        have h127 := and_127 c
        obtain ⟨x, hx⟩ : ∃ x, c.toNat % 128 = x := ⟨_, rfl⟩
        rw [hx] at h127
        have hx2 : x < 128 := by omega
        by_cases hb : (0 < 6 ∧ c.toNat = 0) ∨ (9 ≤ 6 ∧ 1 < c.toNat)
        · have hc0 : ((c.toNat : Int) == 0) = true := by simp; omega
          have HN : Hid (numD l = none) := Lib.hid (HG.out.bad hb)
          clear hb
          go_wp2_with fail
          refine H1.out.mono ?_
          rintro e w1 ⟨rfl, hr1, hm1⟩
          have HM1 := Lib.hid (HM.out.trans hm1)
          clear hr1 hm1
          unfold u8v
          go_wp2
          exact ⟨rfl, by rw [HN.out]; exact ⟨rfl, HM1.out⟩⟩
        · have hc1 : ((c.toNat : Int) == 0) = false := by simp; omega
          have hor : bits BinOp.or IntKind.u64 (acc : Int) ((x : Int) * 4398046511104) = ((acc + 4398046511104 * x : Nat) : Int) := by
            have := or_shift (acc := acc) (x := x) (k := 42) (by simpa using hK) (by simp; omega) (by simp; omega)
            simp only [Nat.reducePow] at this
            rw [← this]; congr 1; omega
          by_cases hc : c.toNat < 128
          · have HE : Hid (numD l = some (unzig (acc + 4398046511104 * x), li)) := Lib.hid (by have := HG.out.last hb hc; simp only [Nat.reduceMul, Nat.reducePow] at this; rw [this, ← hx, Nat.mod_eq_of_lt hc])
            have hc3 : (c.toNat : Int) < 128 := by omega
            have hsz : acc + 4398046511104 * x < 18446744073709551616 := by omega
            clear hb hx hx2
            go_wp2_with fail
            refine H1.out.mono ?_
            rintro e w1 ⟨rfl, hr1, hm1⟩
            have HR1 := Lib.hid hr1
            have HM1 := Lib.hid (HM.out.trans hm1)
            clear hr1 hm1
            unfold u8v
            go_wp2_with fail
            refine (signed_any _ hsz w1).mono ?_
            rintro e w2 ⟨rfl, rfl⟩
            go_wp2
            go_ret
            rw [HE.out]
            exact ⟨rfl, HR1.out, HM1.out⟩
          · have HE : Hid (GI l 7 (acc + 4398046511104 * x) li) := Lib.hid (by have := HG.out.more hb hc; simp only [Nat.reduceMul, Nat.reducePow, Nat.reduceAdd] at this; rw [show x = c.toNat - 128 by omega]; exact this)
            have hc3 : (128 : Int) ≤ (c.toNat : Int) := by omega
            have hsz : acc + 4398046511104 * x < 562949953421312 := by omega
            clear hb hx
            go_wp2_with fail
            refine H1.out.mono ?_
            rintro e w1 ⟨rfl, hr1, hm1⟩
            have HR1 := Lib.hid hr1
            have HM1 := Lib.hid (HM.out.trans hm1)
            clear hr1 hm1
            unfold u8v
            go_wp2
            go_roundw
            case rel => exact ⟨7, acc + 4398046511104 * x, li, rfl, rfl, by omega, by simpa using hsz, HE.out, HR1.out, HM1.out⟩
            case measure => simp [intOf]
      -- group 7
      · have hK : acc < 562949953421312 := by simpa using hacc
        have h127 := and_127 c
        obtain ⟨x, hx⟩ : ∃ x, c.toNat % 128 = x := ⟨_, rfl⟩
        rw [hx] at h127
        have hx2 : x < 128 := by omega
        by_cases hb : (0 < 7 ∧ c.toNat = 0) ∨ (9 ≤ 7 ∧ 1 < c.toNat)
        · have hc0 : ((c.toNat : Int) == 0) = true := by simp; omega
          have HN : Hid (numD l = none) := Lib.hid (HG.out.bad hb)
          clear hb
          go_wp2_with fail
          refine H1.out.mono ?_
          rintro e w1 ⟨rfl, hr1, hm1⟩
          have HM1 := Lib.hid (HM.out.trans hm1)
          clear hr1 hm1
          unfold u8v
          go_wp2
          exact ⟨rfl, by rw [HN.out]; exact ⟨rfl, HM1.out⟩⟩
        · have hc1 : ((c.toNat : Int) == 0) = false := by simp; omega
          have hor : bits BinOp.or IntKind.u64 (acc : Int) ((x : Int) * 562949953421312) = ((acc + 562949953421312 * x : Nat) : Int) := by
            have := or_shift (acc := acc) (x := x) (k := 49) (by simpa using hK) (by simp; omega) (by simp; omega)
            simp only [Nat.reducePow] at this
            rw [← this]; congr 1; omega
          by_cases hc : c.toNat < 128
          · have HE : Hid (numD l = some (unzig (acc + 562949953421312 * x), li)) := Lib.hid (by have := HG.out.last hb hc; simp only [Nat.reduceMul, Nat.reducePow] at this; rw [this, ← hx, Nat.mod_eq_of_lt hc])
            have hc3 : (c.toNat : Int) < 128 := by omega
            have hsz : acc + 562949953421312 * x < 18446744073709551616 := by omega
            clear hb hx hx2
            go_wp2_with fail
            refine H1.out.mono ?_
            rintro e w1 ⟨rfl, hr1, hm1⟩
            have HR1 := Lib.hid hr1
            have HM1 := Lib.hid (HM.out.trans hm1)
            clear hr1 hm1
            unfold u8v
            go_wp2_with fail
            refine (signed_any _ hsz w1).mono ?_
            rintro e w2 ⟨rfl, rfl⟩
            go_wp2
            go_ret
            rw [HE.out]
            exact ⟨rfl, HR1.out, HM1.out⟩
          · have HE : Hid (GI l 8 (acc + 562949953421312 * x) li) := Lib.hid (by have := HG.out.more hb hc; simp only [Nat.reduceMul, Nat.reducePow, Nat.reduceAdd] at this; rw [show x = c.toNat - 128 by omega]; exact this)
            have hc3 : (128 : Int) ≤ (c.toNat : Int) := by omega
            have hsz : acc + 562949953421312 * x < 72057594037927936 := by omega
            clear hb hx
            go_wp2_with fail
            refine H1.out.mono ?_
            rintro e w1 ⟨rfl, hr1, hm1⟩
            have HR1 := Lib.hid hr1
            have HM1 := Lib.hid (HM.out.trans hm1)
            clear hr1 hm1
            unfold u8v
            go_wp2
            go_roundw
            case rel => exact ⟨8, acc + 562949953421312 * x, li, rfl, rfl, by omega, by simpa using hsz, HE.out, HR1.out, HM1.out⟩
            case measure => simp [intOf]
      -- group 8
      · have hK : acc < 72057594037927936 := by simpa using hacc
        have h127 := and_127 c
        obtain ⟨x, hx⟩ : ∃ x, c.toNat % 128 = x := ⟨_, rfl⟩
        rw [hx] at h127
        have hx2 : x < 128 := by omega
        by_cases hb : (0 < 8 ∧ c.toNat = 0) ∨ (9 ≤ 8 ∧ 1 < c.toNat)
        · have hc0 : ((c.toNat : Int) == 0) = true := by simp; omega
          have HN : Hid (numD l = none) := Lib.hid (HG.out.bad hb)
          clear hb
          go_wp2_with fail
          refine H1.out.mono ?_
          rintro e w1 ⟨rfl, hr1, hm1⟩
          have HM1 := Lib.hid (HM.out.trans hm1)
          clear hr1 hm1
          unfold u8v
          go_wp2
          exact ⟨rfl, by rw [HN.out]; exact ⟨rfl, HM1.out⟩⟩
        · have hc1 : ((c.toNat : Int) == 0) = false := by simp; omega
          have hor : bits BinOp.or IntKind.u64 (acc : Int) ((x : Int) * 72057594037927936) = ((acc + 72057594037927936 * x : Nat) : Int) := by
            have := or_shift (acc := acc) (x := x) (k := 56) (by simpa using hK) (by simp; omega) (by simp; omega)
            simp only [Nat.reducePow] at this
            rw [← this]; congr 1; omega
          by_cases hc : c.toNat < 128
          · have HE : Hid (numD l = some (unzig (acc + 72057594037927936 * x), li)) := Lib.hid (by have := HG.out.last hb hc; simp only [Nat.reduceMul, Nat.reducePow] at this; rw [this, ← hx, Nat.mod_eq_of_lt hc])
            have hc3 : (c.toNat : Int) < 128 := by omega
            have hsz : acc + 72057594037927936 * x < 18446744073709551616 := by omega
            clear hb hx hx2
            go_wp2_with fail
            refine H1.out.mono ?_
            rintro e w1 ⟨rfl, hr1, hm1⟩
            have HR1 := Lib.hid hr1
            have HM1 := Lib.hid (HM.out.trans hm1)
            clear hr1 hm1
            unfold u8v
            go_wp2_with fail
            refine (signed_any _ hsz w1).mono ?_
            rintro e w2 ⟨rfl, rfl⟩
            go_wp2
            go_ret
            rw [HE.out]
            exact ⟨rfl, HR1.out, HM1.out⟩
          · have HE : Hid (GI l 9 (acc + 72057594037927936 * x) li) := Lib.hid (by have := HG.out.more hb hc; simp only [Nat.reduceMul, Nat.reducePow, Nat.reduceAdd] at this; rw [show x = c.toNat - 128 by omega]; exact this)
            have hc3 : (128 : Int) ≤ (c.toNat : Int) := by omega
            have hsz : acc + 72057594037927936 * x < 9223372036854775808 := by omega
            clear hb hx
            go_wp2_with fail
            refine H1.out.mono ?_
            rintro e w1 ⟨rfl, hr1, hm1⟩
            have HR1 := Lib.hid hr1
            have HM1 := Lib.hid (HM.out.trans hm1)
            clear hr1 hm1
            unfold u8v
            go_wp2
            go_roundw
            case rel => exact ⟨9, acc + 72057594037927936 * x, li, rfl, rfl, by omega, by simpa using hsz, HE.out, HR1.out, HM1.out⟩
            case measure => simp [intOf]
      -- group 9
      · have hK : acc < 9223372036854775808 := by simpa using hacc
        have h127 := and_127 c
        obtain ⟨x, hx⟩ : ∃ x, c.toNat % 128 = x := ⟨_, rfl⟩
        rw [hx] at h127
        have hx2 : x < 128 := by omega
        by_cases hb : (0 < 9 ∧ c.toNat = 0) ∨ (9 ≤ 9 ∧ 1 < c.toNat)
        · have HN : Hid (numD l = none) := Lib.hid (HG.out.bad hb)
          rcases (show c.toNat = 0 ∨ 1 < c.toNat by omega) with hc0 | hc0
          · have hc1 : ((c.toNat : Int) == 0) = true := by simp; omega
            clear hb
            go_wp2_with fail
            refine H1.out.mono ?_
            rintro e w1 ⟨rfl, hr1, hm1⟩
            have HM1 := Lib.hid (HM.out.trans hm1)
            clear hr1 hm1
            unfold u8v
            go_wp2
            exact ⟨rfl, by rw [HN.out]; exact ⟨rfl, HM1.out⟩⟩
          · have hc1 : ((c.toNat : Int) == 0) = false := by simp; omega
            have hc2 : (1 : Int) < (c.toNat : Int) := by omega
            clear hb
            go_wp2_with fail
            refine H1.out.mono ?_
            rintro e w1 ⟨rfl, hr1, hm1⟩
            have HM1 := Lib.hid (HM.out.trans hm1)
            clear hr1 hm1
            unfold u8v
            go_wp2
            exact ⟨rfl, by rw [HN.out]; exact ⟨rfl, HM1.out⟩⟩
        · have hc1 : ((c.toNat : Int) == 0) = false := by simp; omega
          have hx3 : x ≤ 1 := by omega
          have hc2 : (c.toNat : Int) ≤ 1 := by omega
          have hor : bits BinOp.or IntKind.u64 (acc : Int) ((x : Int) * 9223372036854775808) = ((acc + 9223372036854775808 * x : Nat) : Int) := by
            have := or_shift (acc := acc) (x := x) (k := 63) (by simpa using hK) (by simp; omega) (by simp; omega)
            simp only [Nat.reducePow] at this
            rw [← this]; congr 1; omega
          by_cases hc : c.toNat < 128
          · have HE : Hid (numD l = some (unzig (acc + 9223372036854775808 * x), li)) := Lib.hid (by have := HG.out.last hb hc; simp only [Nat.reduceMul, Nat.reducePow] at this; rw [this, ← hx, Nat.mod_eq_of_lt hc])
            have hc3 : (c.toNat : Int) < 128 := by omega
            have hsz : acc + 9223372036854775808 * x < 18446744073709551616 := by omega
            clear hb hx hx2
            go_wp2_with fail
            refine H1.out.mono ?_
            rintro e w1 ⟨rfl, hr1, hm1⟩
            have HR1 := Lib.hid hr1
            have HM1 := Lib.hid (HM.out.trans hm1)
            clear hr1 hm1
            unfold u8v
            go_wp2_with fail
            refine (signed_any _ hsz w1).mono ?_
            rintro e w2 ⟨rfl, rfl⟩
            go_wp2
            go_ret
            rw [HE.out]
            exact ⟨rfl, HR1.out, HM1.out⟩
          · exact absurd hc (by omega)
end Go.Proofs.Ytlkaeonedijfpaa

namespace Go.Proofs.Ytlkaeonedijfpaa
open Go.RowKit C
theorem numD_len {l r : Bs} {n : Int} (h : numD l = some (n, r)) : r.length < l.length ∧ C.I64 n := by
  obtain ⟨e, hi⟩ := num_codec.of _ _ _ h
  have := numE_pos n
  rw [e, List.length_append]
  exact ⟨by omega, hi⟩
theorem onum_some {w0 w : World} {rb : Nat} {l r : Bs} {n : Int} (h : Rd w0 w rb l) (hd : numD l = some (n, r)) :
    Calls Try.prog 66 #[.pointer (some ⟨rb, 0, none⟩)] w fun e w' => e = .returned (.int .i64 n) ∧ Rd w0 w' rb r ∧ Mv w w' rb := by
  have := onumber_gives w0 w rb l h
  rw [hd] at this; exact this
theorem onum_none {w0 w : World} {rb : Nat} {l : Bs} (h : Rd w0 w rb l) (hd : numD l = none) :
    Calls Try.prog 66 #[.pointer (some ⟨rb, 0, none⟩)] w fun e w' => e = PE ∧ Mv w w' rb := by
  have := onumber_gives w0 w rb l h
  rw [hd] at this; exact this
set_option maxRecDepth 100000 in
set_option maxHeartbeats 2000000 in
theorem ocount_gives (w0 w : World) (rb : Nat) (l : Bs) (h : Rd w0 w rb l) :
    Calls Try.prog 72 #[.pointer (some ⟨rb, 0, none⟩)] w (Gives w0 w rb ((countD l).map fun q => (.int .i64 (q.1 : Int), q.2))) := by
  cases hd : numD l with
  | none =>
    have H1 := Lib.hid (onum_none h hd)
    have HC : Hid (countD l = none) := Lib.hid (by unfold countD; rw [hd])
    clear hd h
    go_enter Try.func72, Try.ntmps72
    go_wp2_with fail
    refine H1.out.mono ?_
    rintro e w1 ⟨rfl, hm⟩
    have HM := Lib.hid hm
    clear hm
    go_wp2
    exact ⟨rfl, by rw [HC.out]; exact ⟨rfl, HM.out⟩⟩
  | some q =>
    obtain ⟨n, r⟩ := q
    have H1 := Lib.hid (onum_some h hd)
    obtain ⟨_, hin⟩ := numD_len hd
    unfold C.I64 at hin
    by_cases h1 : n < 0
    · have HC : Hid (countD l = none) := Lib.hid (by unfold countD; rw [hd]; simp only; rw [if_pos (.inl h1)])
      clear hd h
      go_enter Try.func72, Try.ntmps72
      go_wp2_with fail
      refine H1.out.mono ?_
      rintro e w1 ⟨rfl, hr, hm⟩
      have HM := Lib.hid hm
      clear hm hr
      go_wp2
      exact ⟨rfl, by rw [HC.out]; exact ⟨rfl, HM.out⟩⟩
    · obtain ⟨m, rfl⟩ : ∃ m : Nat, n = (m : Int) := ⟨n.toNat, by omega⟩
      have h1' : decide ((m : Int) < 0) = false := by simp
      by_cases h2 : r.length < m
      · have HC : Hid (countD l = none) := Lib.hid (by unfold countD; rw [hd]; simp only; rw [if_pos (.inr (by omega))])
        have h2' : decide (r.length < m) = true := by simp [h2]
        clear hd h
        go_enter Try.func72, Try.ntmps72
        go_wp2_with fail
        refine H1.out.mono ?_
        rintro e w1 ⟨rfl, hr, hm⟩
        have HM := Lib.hid hm
        obtain ⟨A, cap, hb, _⟩ := hr.blk
        have c0 : w1.cell? ⟨rb, 0, none⟩ = some (.slice A r.length cap) := by simp [World.cell?, hb]
        clear hm hr hb
        go_wp2
        exact ⟨rfl, by rw [HC.out]; exact ⟨rfl, HM.out⟩⟩
      · have HC : Hid (countD l = some (m, r)) := Lib.hid (by unfold countD; rw [hd]; simp only; rw [if_neg (by omega)]; simp)
        have h2' : decide (r.length < m) = false := by simp [h2]
        clear hd h
        go_enter Try.func72, Try.ntmps72
        go_wp2_with fail
        refine H1.out.mono ?_
        rintro e w1 ⟨rfl, hr, hm⟩
        have HM := Lib.hid hm
        have HR := Lib.hid hr
        obtain ⟨A, cap, hb, _⟩ := hr.blk
        have c0 : w1.cell? ⟨rb, 0, none⟩ = some (.slice A r.length cap) := by simp [World.cell?, hb]
        clear hm hr hb
        go_wp2
        go_ret
        rw [HC.out]
        exact ⟨rfl, HR.out, HM.out⟩
theorem ocount_some {w0 w : World} {rb : Nat} {l r : Bs} {n : Nat} (h : Rd w0 w rb l) (hd : countD l = some (n, r)) :
    Calls Try.prog 72 #[.pointer (some ⟨rb, 0, none⟩)] w fun e w' => e = .returned (.int .i64 (n : Int)) ∧ Rd w0 w' rb r ∧ Mv w w' rb := by
  have := ocount_gives w0 w rb l h
  rw [hd] at this; exact this
theorem ocount_none {w0 w : World} {rb : Nat} {l : Bs} (h : Rd w0 w rb l) (hd : countD l = none) :
    Calls Try.prog 72 #[.pointer (some ⟨rb, 0, none⟩)] w fun e w' => e = PE ∧ Mv w w' rb := by
  have := ocount_gives w0 w rb l h
  rw [hd] at this; exact this
theorem brow_drop {w : World} {A : Option Addr} {l : Bs} (h : Row 1 (ByAt w) A l) (n : Nat) {g o : Nat} (hA : A = some ⟨g, o, none⟩) : Row 1 (ByAt w) (some ⟨g, o + n, none⟩) (l.drop n) := by
  by_cases hn : n < l.length
  · obtain ⟨g', o', e, hh⟩ := h.at (by omega)
    rw [hA] at e
    cases e
    refine .inr ⟨g, o + n, rfl, fun i hi => ?_⟩
    rw [List.length_drop] at hi
    have := hh (n + i) (by omega)
    rw [show o + n + i * 1 = o + (n + i) * 1 by omega]
    simpa using this
  · exact .inl (List.drop_eq_nil_of_le (by omega))
theorem brow_take {w : World} {A : Option Addr} {l : Bs} (h : Row 1 (ByAt w) A l) (n : Nat) : Row 1 (ByAt w) A (l.take n) := by
  by_cases hl : 0 < l.length
  · obtain ⟨g, o, e, hh⟩ := h.at hl
    by_cases hn : (l.take n) = []
    · exact .inl hn
    · refine .inr ⟨g, o, e, fun i hi => ?_⟩
      rw [List.length_take] at hi
      have := hh i (by omega)
      simpa using this
  · rw [List.eq_nil_of_length_eq_zero (Nat.eq_zero_of_not_pos hl)]; exact .inl (by simp)
/-- The bytes of a row as a string. -/
theorem run_text (w : World) {A : Option Addr} {l : Bs} {cap n : Nat} (hn : l.length = n) (h : Row 1 (ByAt w) A l) : (convert 22 9 (.slice A n cap)).run Try.prog w = .ok (.string ⟨l.toArray⟩) w := by
  subst hn
  by_cases hl : 0 < l.length
  · obtain ⟨g, o, e, hh⟩ := h.at hl
    subst e
    refine run_convert_bytes_back w 22 9 5 ⟨g, o, none⟩ cap l Try.underlying22 Try.underlying5 Try.underlying9 (fun j hj => ?_)
    have := (hh j hj).c0
    rw [Nat.mul_one] at this
    rw [addr_add]; exact this
  · obtain rfl : l = [] := List.eq_nil_of_length_eq_zero (by omega)
    cases A with
    | none => exact run_convert_bytes_nil w 22 5 Try.underlying22 Try.underlying5 0 cap 9 Try.underlying9
    | some a =>
      refine run_convert_bytes_back w 22 9 5 a cap [] Try.underlying22 Try.underlying5 Try.underlying9 (fun j hj => by cases hj)
theorem countD_len {l r : Bs} {n : Nat} (h : countD l = some (n, r)) : r.length < l.length ∧ n ≤ r.length := by
  obtain ⟨e, _, hn⟩ := countD_of h
  have := numE_pos (n : Int)
  rw [e, List.length_append]
  exact ⟨by omega, hn⟩
theorem ret_str {a b : ByteArray} (h : a = b) : Ending.returned (.string a) = .returned (.string b) := by rw [h]
set_option maxRecDepth 100000 in
set_option maxHeartbeats 4000000 in
theorem otext_gives (w0 w : World) (rb : Nat) (l : Bs) (h : Rd w0 w rb l) :
    Calls Try.prog 73 #[.pointer (some ⟨rb, 0, none⟩)] w (Gives w0 w rb ((textD l).map fun q => (.string q.1, q.2))) := by
  cases hd : countD l with
  | none =>
    have H1 := Lib.hid (ocount_none h hd)
    have HC : Hid (textD l = none) := Lib.hid (by unfold textD; rw [hd])
    clear hd h
    go_enter Try.func73, Try.ntmps73
    go_wp2_with fail
    refine H1.out.mono ?_
    rintro e w1 ⟨rfl, hm⟩
    have HM := Lib.hid hm
    clear hm
    go_wp2
    exact ⟨rfl, by rw [HC.out]; exact ⟨rfl, HM.out⟩⟩
  | some q =>
    obtain ⟨n, r⟩ := q
    have H1 := Lib.hid (ocount_some h hd)
    obtain ⟨_, hnr⟩ := countD_len hd
    have HC : Hid (textD l = some (⟨(r.take n).toArray⟩, r.drop n)) := Lib.hid (by unfold textD; rw [hd])
    clear hd h
    go_enter Try.func73, Try.ntmps73
    go_wp2_with fail
    refine H1.out.mono ?_
    rintro e w1 ⟨rfl, hr, hm⟩
    have HM := Lib.hid hm
    have HR := Lib.hid hr
    obtain ⟨A, cap, hb, hc, hcm, hrow⟩ := hr.blk
    have c0 : w1.cell? ⟨rb, 0, none⟩ = some (.slice A r.length cap) := by simp [World.cell?, hb]
    have z0 : w1.frozen? ⟨rb, 0, none⟩ = false := by simp [World.frozen?, hb]
    have hset := Lib.hid (grown_set w1 rb 0)
    have HROW := Lib.hid hrow
    have hl0 := HR.out.bel
    have hcv := run_text w1 (A := A) (cap := cap) (n := n) (l := r.take n) (by rw [List.length_take]; omega) ((brow_take hrow n).imp fun x g o q => q.below hl0)
    obtain ⟨T, hT⟩ : ∃ T, T = (⟨(r.take n).toArray⟩ : ByteArray) := ⟨_, rfl⟩
    rw [← hT] at hcv
    have HT := Lib.hid hT
    have hcm2 := hcm
    unfold maxLen at hcm2
    clear hm hr hb hT hrow hl0
    cases A with
    | none =>
      have hr0 : r = [] := by
        rcases HROW.out with e | ⟨g, o, e, _⟩
        · exact e
        · cases e
      subst hr0
      obtain rfl : n = 0 := by simpa using hnr
      go_wp2
      go_ret
      rw [HC.out]
      exact ⟨ret_str HT.out, by simpa using Rd.set (l' := []) HR.out (Nat.zero_le _) hcm (.inl rfl), HM.out.trans (hset.out _)⟩
    | some a =>
      by_cases hr0 : r.length = 0
      · obtain rfl : r = [] := List.eq_nil_of_length_eq_zero hr0
        obtain rfl : n = 0 := by simpa using hnr
        clear hr0
        by_cases hcap : cap = 0
        · subst hcap
          go_wp2
          go_ret
          rw [HC.out]
          exact ⟨ret_str HT.out, by simpa using Rd.set (l' := []) HR.out (Nat.zero_le _) hcm (.inl rfl), HM.out.trans (hset.out _)⟩
        · have hcap1 : 0 < cap := by omega
          go_wp2
          go_ret
          rw [HC.out]
          exact ⟨ret_str HT.out, by simpa using Rd.set (l' := []) HR.out (Nat.zero_le _) hcm (.inl rfl), HM.out.trans (hset.out _)⟩
      · obtain ⟨g, o, hAe, hh⟩ := HROW.out.at (by omega)
        cases hAe
        have HRD := Lib.hid (brow_drop HROW.out n rfl)
        have hnr2 : (n : Int) ≤ (r.length : Int) := by omega
        have hsb : (r.length : Int) - (n : Int) = ((r.length - n : Nat) : Int) := by omega
        have HLD : Hid ((r.drop n).length = r.length - n) := Lib.hid List.length_drop
        clear hh hr0
        by_cases hcap : cap = n
        · subst hcap
          have hrd : r.drop cap = [] := List.drop_eq_nil_of_le (by omega)
          have hle : r.length = cap := by omega
          rw [hrd] at HC
          obtain ⟨m, hm⟩ : ∃ m, r.length = m := ⟨_, rfl⟩
          rw [hm] at hle c0 hnr2 hsb hc HLD
          subst hle
          clear hm hrd hsb HLD HRD
          go_wp2
          go_ret
          rw [HC.out]
          refine ⟨ret_str HT.out, ?_, HM.out.trans (hset.out _)⟩
          have := Rd.set (l' := []) (cap := 0) HR.out (Nat.zero_le _) (by unfold maxLen; omega) (A := some ⟨g, o, none⟩) (.inl rfl)
          simpa using this
        · have hcap1 : n < cap := by omega
          go_wp2
          go_ret
          rw [HC.out]
          refine ⟨ret_str HT.out, ?_, HM.out.trans (hset.out _)⟩
          have := Rd.set (l' := r.drop n) (cap := cap - n) HR.out (by rw [HLD.out]; omega) (by unfold maxLen; omega) HRD.out
          rw [HLD.out] at this
          exact this
end Go.Proofs.Ytlkaeonedijfpaa

namespace Go.Proofs.Ytlkaeonedijfpaa
open Go.RowKit C
/-- k elements of n have been read. -/
def Pre {α : Type} (d : Bs → Option (α × Bs)) (n : Nat) (l : Bs) (k : Nat) (xs : List α) (lk : Bs) : Prop :=
  xs.length = k ∧ k ≤ n ∧ repD d n l = match repD d (n - k) lk with | none => none | some (ys, r) => some (xs ++ ys, r)
theorem Pre.start {α : Type} (d : Bs → Option (α × Bs)) (n : Nat) (l : Bs) : Pre d n l 0 [] l := by
  refine ⟨rfl, Nat.zero_le _, ?_⟩
  rw [Nat.sub_zero]
  cases repD d n l with
  | none => rfl
  | some q => obtain ⟨y, r⟩ := q; simp
theorem Pre.done {α : Type} {d : Bs → Option (α × Bs)} {n : Nat} {l lk : Bs} {xs : List α} (h : Pre d n l n xs lk) : repD d n l = some (xs, lk) := by
  rw [h.2.2, Nat.sub_self]; simp [repD]
theorem Pre.stop {α : Type} {d : Bs → Option (α × Bs)} {n k : Nat} {l lk : Bs} {xs : List α} (h : Pre d n l k xs lk) (hk : k < n) (hd : d lk = none) : repD d n l = none := by
  rw [h.2.2, show n - k = (n - k - 1) + 1 by omega]
  simp only [repD]; rw [hd]
theorem Pre.next {α : Type} {d : Bs → Option (α × Bs)} {n k : Nat} {l lk r : Bs} {xs : List α} {x : α} (h : Pre d n l k xs lk) (hk : k < n) (hd : d lk = some (x, r)) : Pre d n l (k + 1) (xs ++ [x]) r := by
  refine ⟨by rw [List.length_append, h.1]; rfl, hk, ?_⟩
  rw [h.2.2, show n - k = (n - (k + 1)) + 1 by omega]
  simp only [repD]; rw [hd]
  simp only
  cases hq : repD d (n - (k + 1)) r with
  | none => rfl
  | some q => obtain ⟨y, r3⟩ := q; simp
/-- Rows in new memory. -/
def El {α : Type} (k : Nat) (R : World → α → Nat → Nat → Prop) (B : Nat) (w : World) (X : Option Nat) (l : List α) (v : Value) : Prop :=
  ∃ A cap, v = .slice A l.length cap ∧ l.length ≤ cap ∧ (l = [] ∨ ∃ g, A = some ⟨g, 0, none⟩ ∧ B ≤ g ∧ g < w.heap.size ∧ X ≠ some g ∧ ∀ i (h : i < l.length), R w l[i] g (i * k))
def Loc {α : Type} (R : World → α → Nat → Nat → Prop) : Prop := ∀ (w w' : World) (x : α) (g o : Nat), R w x g o → w'.heap[g]? = w.heap[g]? → g < w'.heap.size → R w' x g o
theorem loc_int : Loc IntAt := fun w w' x g o h e hl => ⟨hl, by rw [World.cell?_of_block e]; exact h.c0, h.b0⟩
theorem loc_in : Loc InAt := fun w w' x g o h e hl => ⟨hl, by rw [World.cell?_of_block e]; exact h.c0, by rw [World.cell?_of_block e]; exact h.c1, by rw [World.cell?_of_block e]; exact h.c2, by rw [World.cell?_of_block e]; exact h.c3, by rw [World.cell?_of_block e]; exact h.c4, h.b0, h.b1, h.b2, h.b3, h.b4⟩
theorem loc_gl : Loc GlAt := fun w w' x g o h e hl => ⟨hl, by rw [World.cell?_of_block e]; exact h.c0, by rw [World.cell?_of_block e]; exact h.c1, h.s0, h.b1⟩
theorem El.keep {α : Type} {k : Nat} {R : World → α → Nat → Nat → Prop} {B : Nat} {w w' : World} {X X' : Option Nat} {l : List α} {v : Value} (h : El k R B w X l v) (hR : Loc R) (hb : ∀ g, B ≤ g → g < w.heap.size → X ≠ some g → w'.heap[g]? = w.heap[g]? ∧ X' ≠ some g) (hs : w.heap.size ≤ w'.heap.size) : El k R B w' X' l v := by
  obtain ⟨A, cap, hv, hc, hh⟩ := h
  refine ⟨A, cap, hv, hc, ?_⟩
  rcases hh with e | ⟨g, hA, h1, h2, h3, h4⟩
  · exact .inl e
  · obtain ⟨e1, e2⟩ := hb g h1 h2 h3
    exact .inr ⟨g, hA, h1, by omega, e2, fun i hi => hR _ _ _ _ _ (h4 i hi) e1 (by omega)⟩
theorem El.mv {α : Type} {k : Nat} {R : World → α → Nat → Nat → Prop} {B rb : Nat} {w w' : World} {X : Option Nat} {l : List α} {v : Value} (h : El k R B w X l v) (hR : Loc R) (hm : Mv w w' rb) (hrb : rb < B) : El k R B w' X l v :=
  h.keep hR (fun g h1 h2 h3 => ⟨hm.keep h2 (by omega), h3⟩) hm.size
/-- A row of the call's own, as it is handed back. -/
theorem el_own {α : Type} {k : Nat} {R : World → α → Nat → Nat → Prop} {B : Nat} {w : World} {t : TypeId} {v : Value} {l : List α} {cl : α → List Value} (hk : ∀ x, (cl x).length = k) (h : w.ownsRow B t k v l.length ((l.map cl).flatten)) (hR : ∀ x ∈ l, ∀ g o, g < w.heap.size → (∀ r, r < k → w.cell? ⟨g, o + r, none⟩ = (cl x)[r]?) → R w x g o) : El k R B w none l v := by
  rcases h.2 with ⟨rfl, h0⟩ | ⟨g, cap, cur, rfl, hb, hg, hc, hm, hcs, ht⟩
  · have : l = [] := List.eq_nil_of_length_eq_zero h0
    subst this
    exact ⟨none, 0, rfl, Nat.le_refl _, .inl rfl⟩
  · refine ⟨some ⟨g, 0, none⟩, cap, rfl, hc, .inr ⟨g, rfl, hb, (Array.getElem?_eq_some_iff.1 hg).1, by simp, fun i hi => ?_⟩⟩
    exact hR _ (List.getElem_mem hi) _ _ (Array.getElem?_eq_some_iff.1 hg).1 (own_cells hk (l := l) (cap := cap) ⟨h.1, .inr ⟨g, cap, cur, rfl, hb, hg, hc, hm, hcs, ht⟩⟩ i hi)
theorem own_mv {w w' : World} {rb base n sz : Nat} {e : TypeId} {v : Value} {xs : List Value} (h : w.ownsRow base e sz v n xs) (hm : Mv w w' rb) (hrb : rb < base) : w'.ownsRow base e sz v n xs :=
  h.kept hm (by
    cases hv : v.ownBlock with
    | none => exact .inl rfl
    | some c => exact .inr (by intro e; have := h.lt c hv; cases e; omega))
theorem take_more {α : Type} {xs : List α} {x : α} {n : Nat} (h : xs.length ≤ n) : (xs ++ [x]).take (n + 1) = xs ++ [x] ∧ xs.take (n + 1) = xs := by
  refine ⟨List.take_of_length_le (by rw [List.length_append]; simp; omega), List.take_of_length_le (by omega)⟩
theorem take_same {α : Type} {xs : List α} {x : α} {n : Nat} (h : n < xs.length) : (xs ++ [x]).take (n + 1) = xs.take (n + 1) := by
  rw [List.take_append_of_le_length (by omega)]
theorem infoInt : (Try.prog.info? 3).map (fun i => (i.zero, i.size, i.bytes)) = some (some (.int .i64 0), 1, 8) := by kernel_rfl
def intC (x : Int) : List Value := [.int .i64 x]
theorem Rd.max {w0 w : World} {rb : Nat} {l : Bs} (h : Rd w0 w rb l) : l.length ≤ 9223372036854775807 := by
  obtain ⟨A, cap, _, hc, hm, _⟩ := h.blk
  unfold maxLen at hm; omega
theorem El.weak {α : Type} {k : Nat} {R : World → α → Nat → Nat → Prop} {B B' : Nat} {w : World} {X : Option Nat} {l : List α} {v : Value} (h : El k R B w X l v) (hb : B' ≤ B) : El k R B' w X l v := by
  obtain ⟨A, cap, hv, hc, hh⟩ := h
  refine ⟨A, cap, hv, hc, ?_⟩
  rcases hh with e | ⟨g, hA, h1, r⟩
  · exact .inl e
  · exact .inr ⟨g, hA, by omega, r⟩
theorem El.imp {α β : Type} {k : Nat} {R : World → α → Nat → Nat → Prop} {S : World → β → Nat → Nat → Prop} {B : Nat} {w : World} {X : Option Nat} {l : List α} {v : Value} (f : α → β) (h : El k R B w X l v) (hR : ∀ x ∈ l, ∀ g o, R w x g o → S w (f x) g o) : El k S B w X (l.map f) v := by
  obtain ⟨A, cap, hv, hc, hh⟩ := h
  refine ⟨A, cap, by rw [List.length_map]; exact hv, by rw [List.length_map]; exact hc, ?_⟩
  rcases hh with e | ⟨g, hA, h1, h2, h3, h4⟩
  · exact .inl (by rw [e]; rfl)
  · exact .inr ⟨g, hA, h1, h2, h3, fun i hi => by rw [List.length_map] at hi; rw [List.getElem_map]; exact hR _ (List.getElem_mem hi) _ _ (h4 i hi)⟩
/-- A layout, and a function, as they are kept: cut where they are too long. -/
def LyN (B : Nat) (w : World) (x : List Int) (g o : Nat) : Prop := g < w.heap.size ∧ ∃ v, w.cell? ⟨g, o, none⟩ = some v ∧ El 1 IntAt B w none (x.take 65) v
def FnN (B : Nat) (w : World) (f : Fc) (g o : Nat) : Prop := g < w.heap.size ∧ w.cell? ⟨g, o, none⟩ = some (.string f.name) ∧ w.cell? ⟨g, o + 1, none⟩ = some (.int .i64 f.params) ∧ w.cell? ⟨g, o + 2, none⟩ = some (.int .i64 f.regs) ∧
  (∃ v, w.cell? ⟨g, o + 3, none⟩ = some v ∧ El 5 InAt B w none (f.code.take 1001) v) ∧ f.name.size ≤ maxLen ∧ i64 f.params ∧ i64 f.regs
theorem El.deep {α : Type} {k : Nat} {R : World → α → Nat → Nat → Prop} {B rb : Nat} {w w' : World} {X : Option Nat} {l : List α} {v : Value} (h : El k R B w X l v) (hm : Mv w w' rb) (hR : ∀ x g o, B ≤ g → g < w.heap.size → R w x g o → R w' x g o) : El k R B w' X l v := by
  obtain ⟨A, cap, hv, hc, hh⟩ := h
  refine ⟨A, cap, hv, hc, ?_⟩
  rcases hh with e | ⟨g, hA, h1, h2, h3, h4⟩
  · exact .inl e
  · exact .inr ⟨g, hA, h1, by have := hm.size; omega, h3, fun i hi => hR _ _ _ h1 h2 (h4 i hi)⟩
theorem lyN_mv {B rb : Nat} {w w' : World} (hm : Mv w w' rb) (hrb : rb < B) : ∀ x g o, B ≤ g → g < w.heap.size → LyN B w x g o → LyN B w' x g o := by
  rintro x g o h1 h2 ⟨_, v, hc, he⟩
  have hk := hm.keep h2 (show g ≠ rb by omega)
  exact ⟨by have := hm.size; omega, v, by rw [World.cell?_of_block hk]; exact hc, he.mv loc_int hm hrb⟩
theorem fnN_mv {B rb : Nat} {w w' : World} (hm : Mv w w' rb) (hrb : rb < B) : ∀ x g o, B ≤ g → g < w.heap.size → FnN B w x g o → FnN B w' x g o := by
  rintro x g o h1 h2 ⟨_, c0, c1, c2, ⟨v, hc, he⟩, r⟩
  have hk := hm.keep h2 (show g ≠ rb by omega)
  exact ⟨by have := hm.size; omega, by rw [World.cell?_of_block hk]; exact c0, by rw [World.cell?_of_block hk]; exact c1, by rw [World.cell?_of_block hk]; exact c2, ⟨v, by rw [World.cell?_of_block hk]; exact hc, he.mv loc_in hm hrb⟩, r⟩
end Go.Proofs.Ytlkaeonedijfpaa
