/-
  The walk of the law ScanPlaces.
-/
import Derived.Test.YtaalgkcbknlccaaDoorL1
namespace Go.Proofs.YtaalgkcbknlccaaDoor
open Go.RowKit M

/-- The tokens stand in order from at on. -/
def Plc (l : Bs) : Nat → List Tok → Prop
  | _, [] => True
  | m, t :: r => m ≤ t.a ∧ 0 < t.t.length ∧ t.a + t.t.length ≤ l.length ∧ ((l.drop t.a).take t.t.length = t.t ∨ (t.t = [59] ∧ t.k = 4 ∧ (l.drop t.a).take 1 = [10])) ∧ Plc l (t.a + t.t.length) r
theorem Plc.mono {l : Bs} {m m' : Nat} {L : List Tok} (h : Plc l m L) (hm : m' ≤ m) : Plc l m' L := by
  cases L with
  | nil => trivial
  | cons t r => exact ⟨Nat.le_trans hm h.1, h.2⟩
theorem plc_toks (r : Bs) (a : Nat) (ins : Bool) : ∀ l : Bs, r = l.drop a → a ≤ l.length → Plc l a ((toks r a ins).1.filter nc) := by
  refine toks_ind (P := fun r a _ x => ∀ l : Bs, r = l.drop a → a ≤ l.length → Plc l a (x.1.filter nc)) ?_ ?_ ?_ ?_ ?_ r a ins
  · intro a ins l _ _; trivial
  · intro c r a ins _ h l hr ha
    have hl := congrArg List.length hr
    simp at hl
    have e : r = l.drop (a + 1) := by have := congrArg List.tail hr; simpa using this
    exact (h l e (by omega)).mono (by omega)
  · intro c r a ins _ h10 h l hr ha
    have hl := congrArg List.length hr
    simp at hl
    have e : r = l.drop (a + 1) := by have := congrArg List.tail hr; simpa using this
    have hc : c = 10 := UInt8.toNat_inj.1 h10
    have e2 : (⟨4, [59], a⟩ :: (toks r (a + 1) false).1 : List Tok).filter nc = ⟨4, [59], a⟩ :: (toks r (a + 1) false).1.filter nc := by rw [List.filter_cons, if_pos (by simp [nc])]
    show Plc l a ((⟨4, [59], a⟩ :: (toks r (a + 1) false).1 : List Tok).filter nc)
    rw [e2]
    exact ⟨Nat.le_refl _, Nat.zero_lt_one, by show a + 1 ≤ _; omega, .inr ⟨rfl, rfl, by rw [← hr, hc]; rfl⟩, h l e (by omega)⟩
  · intro c r a ins _ _ _ l _ _; trivial
  · intro c r a ins k n _ _ _ h1 h2 h l hr ha
    have hl := congrArg List.length hr
    simp at hl h2
    have e : (c :: r).drop n = l.drop (a + n) := by rw [hr, List.drop_drop]
    have ih := h l e (by omega)
    have hlen : ((c :: r).take n).length = n := by simp; omega
    by_cases hk : k = 5
    · subst hk
      show Plc l a (List.filter nc (_ :: _))
      rw [List.filter_cons, if_neg (by simp [nc])]
      exact ih.mono (by omega)
    · show Plc l a (List.filter nc (_ :: _))
      rw [List.filter_cons, if_pos (by simp [nc, hk])]
      refine ⟨Nat.le_refl _, by show 0 < ((c :: r).take n).length; rw [hlen]; exact h1, by show a + ((c :: r).take n).length ≤ _; rw [hlen]; omega, .inl (by show (l.drop a).take ((c :: r).take n).length = _; rw [hlen, ← hr]), ?_⟩
      show Plc l (a + ((c :: r).take n).length) _
      rw [hlen]
      exact ih
theorem plc_scan {l : Bs} (hl : l.length ≤ 20000) (he : scanE l = 0) : Plc l 0 (scanL l) := by
  unfold scanL
  unfold scanE at he
  rw [if_pos he]
  have : (scanR l).1 = (toks l 0 false).1 := by unfold scanR; rw [if_neg (by omega), scanAll_eq]
  rw [this]
  exact plc_toks l 0 false l (by simp) (Nat.zero_le _)

/-- What a round needs of a token. -/
theorem plc_at {l : Bs} {m k : Nat} {L : List Tok} (hk : k < L.length) (h : Plc l m (L.drop k)) :
    m ≤ L[k].a ∧ 0 < L[k].t.length ∧ L[k].a + L[k].t.length ≤ l.length ∧ ((l.drop L[k].a).take L[k].t.length = L[k].t ∨ (L[k].t = [59] ∧ L[k].k = 4 ∧ (l.drop L[k].a).take 1 = [10])) ∧ Plc l (L[k].a + L[k].t.length) (L.drop (k + 1)) := by
  rw [List.drop_eq_getElem_cons hk] at h
  exact h

set_option maxRecDepth 100000 in
theorem places_long (s : ByteArray) (w : World) (hG : Glob w) (hs : 600 < s.size) (hm : s.size ≤ maxLen) : Calls Tryd.prog 8 #[.string s] w fun e w' => e = .returned (.bool true) ∧ Below w.heap.size w w' := by
  unfold maxLen at hm
  have HG := Lib.hid hG
  clear hG
  have hd : decide ((600 : Int) < (s.size : Int)) = true := by simp; omega
  have hd2 : (600 : Int) < (s.size : Int) := by omega
  go_enter Tryd.func8, Tryd.ntmps8
  go_wp2_with fail
  refine (awake_any _ HG.out).mono ?_
  rintro e w1 ⟨rfl, hb1⟩
  go_wp2
  go_ret
  exact ⟨rfl, hb1⟩

set_option maxRecDepth 100000 in
set_option maxHeartbeats 1000000 in
theorem places_err (s : ByteArray) (w : World) (hG : Glob w) (hs : s.size ≤ 600) (he : scanE s.data.toList ≠ 0) : Calls Tryd.prog 8 #[.string s] w fun e w' => e = .returned (.bool true) ∧ Below w.heap.size w w' := by
  have HG := Lib.hid hG
  clear hG
  have HM : Hid (s.size ≤ maxLen) := Lib.hid (by unfold maxLen; omega)
  have hd : decide ((600 : Int) < (s.size : Int)) = false := by simp; omega
  have HE : ((scanE s.data.toList : Int) != 0) = true := by simp; omega
  have HL : Hid (scanL s.data.toList = []) := by unfold scanL scanE at *; exact if_neg he
  clear he
  go_enter Tryd.func8, Tryd.ntmps8
  go_wp2_with fail
  refine (awake_any _ HG.out).mono ?_
  rintro e w1 ⟨rfl, hb1⟩
  have G1 := Lib.hid (HG.out.below hb1)
  have B1 := Lib.hid hb1
  clear hb1
  go_wp2_with fail
  refine (scan_any s w1 HM.out G1.out).mono ?_
  rintro e w2 ⟨A1, c1, he1, ho1, hb2⟩
  rw [HL.out] at he1
  subst he1
  have B2 := Lib.hid (B1.out.trans (hb2.mono B1.out.size))
  clear ho1 hb2 B1
  go_wp2
  go_ret
  exact ⟨rfl, B2.out⟩

theorem scan_at (s : ByteArray) (w : World) (hm : s.size ≤ maxLen) (hG : Glob w) (he : scanE s.data.toList = 0) {L : List Tok} (hL : scanL s.data.toList = L) :
    Calls Tryd.prog 12 #[.string s] w fun e w' => ∃ A cap, e = .returned (.tuple #[.slice A L.length cap, .int .i64 0, .int .i64 0]) ∧ w'.ownsRow w.heap.size 33 3 (.slice A L.length cap) L.length (cells L) ∧ Below w.heap.size w w' := by
  refine (scan_any s w hm hG).mono fun e w' h => ?_
  obtain ⟨A, cap, h1, h2, h3⟩ := h
  rw [hL] at h1 h2
  rw [scanA_zero _ he, he] at h1
  exact ⟨A, cap, h1, h2, h3⟩
theorem lies_rd {w : World} {A : Option Addr} {l : List Tok} (h : Rd w A l) {k : Nat} (hk : k < l.length) : ∃ g, A = some ⟨g, 0, none⟩ ∧ Lies w g l ∧ g < w.heap.size := by
  rcases h with h | h
  · subst h; exact absurd hk (by simp)
  · exact h
theorem ext_text {s : ByteArray} {a : Nat} {t : Bs} (h : (s.data.toList.drop a).take t.length = t) : s.extract a (a + t.length) = ⟨t.toArray⟩ := by
  rw [ext_mk, h]
theorem byte_text {s : ByteArray} {a : Nat} (ha : a < s.size) (h : (s.data.toList.drop a).take 1 = [10]) : s[a].toNat = 10 := by
  rw [drop_at s a ha] at h
  simp at h
  rw [h]; rfl

set_option maxRecDepth 100000 in
set_option maxHeartbeats 2000000 in
theorem places_ok (s : ByteArray) (w : World) (hG : Glob w) (hs : s.size ≤ 600) (he : scanE s.data.toList = 0) : Calls Tryd.prog 8 #[.string s] w fun e w' => e = .returned (.bool true) ∧ Below w.heap.size w w' := by
  have HG := Lib.hid hG
  clear hG
  have HM : Hid (s.size ≤ maxLen) := Lib.hid (by unfold maxLen; omega)
  have hd : decide ((600 : Int) < (s.size : Int)) = false := by simp; omega
  have hP := plc_scan (by rw [← size_list]; omega) he
  have hL := scanL_len s.data.toList
  have HE := Lib.hid he
  obtain ⟨L, hLe⟩ : ∃ L, scanL s.data.toList = L := ⟨_, rfl⟩
  rw [hLe] at hP hL
  have HL := Lib.hid hLe
  have HP := Lib.hid hP
  clear he hP hLe
  go_enter Tryd.func8, Tryd.ntmps8
  go_wp2_with fail
  refine (awake_any _ HG.out).mono ?_
  rintro e w1 ⟨rfl, hb1⟩
  have G1 := Lib.hid (HG.out.below hb1)
  have B1 := Lib.hid hb1
  clear hb1
  go_wp2_with fail
  refine (scan_at s w1 HM.out G1.out HE.out HL.out).mono ?_
  rintro e w2 ⟨A, cap, rfl, ho, hb2⟩
  have R2 := Lib.hid (rd_of ho)
  have B2 := Lib.hid (B1.out.trans (hb2.mono B1.out.size))
  clear ho hb2 B1
  go_wp2_with fail
  go_loopw [6, 7] (fun v i wr => ∃ m k : Nat, k ≤ L.length ∧ v = .int .i64 m ∧ i = .int .i64 k ∧ Plc s.data.toList m (L.drop k) ∧ Below w2.heap.size w2 wr) (fun _ i _ => L.length - (intOf i).toNat)
  case atStart => exact ⟨0, 0, Nat.zero_le _, rfl, rfl, by simpa using HP.out, Below.refl _ _⟩
  case round =>
    obtain ⟨m, k, hk, rfl, rfl, hpl, hbr⟩ := hrel
    have BR := Lib.hid hbr
    have PL := Lib.hid hpl
    clear hbr hpl
    by_cases hkl : k < L.length
    · obtain ⟨q1, q2, q3, q4, q5⟩ := plc_at hkl PL.out
      have Q5 := Lib.hid q5
      clear q5 PL
      obtain ⟨g, rfl, hlie, hg⟩ := lies_rd R2.out hkl
      obtain ⟨d0, d1, d2⟩ := (hlie.below BR.out hg) k hkl
      generalize L[k] = t at *
      rw [← size_list] at q3
      have hk1 : (k : Int) < (L.length : Int) := by omega
      have hsz : (⟨t.t.toArray⟩ : ByteArray).size = t.t.length := rfl
      obtain ⟨n, hn⟩ : ∃ n, t.t.length = n := ⟨_, rfl⟩
      rw [hn] at hsz
      have f1 : decide ((t.a : Int) < (m : Int)) = false := by simp; omega
      have f2 : ((n : Int) == 0) = false := by simp; omega
      have f3 : decide ((s.size : Int) - (n : Int) < (t.a : Int)) = false := by simp; omega
      have f4 : (0 : Int) ≤ (t.a : Int) := by omega
      have f5 : (t.a : Int) ≤ (t.a : Int) + n := by omega
      have f6 : (t.a : Int) + n ≤ (s.size : Int) := by omega
      have f7 : (0 : Int) ≤ (t.a : Int) + n := by omega
      rcases q4 with q4 | ⟨q4, q6, q7⟩
      · have hx := ext_text q4
        rw [hn] at hx
        rw [hn] at q2 q3 Q5
        clear q4 hn
        go_wp2_with fail
        have hw1 : IntKind.i64.wrap ((t.a : Int) + n) = (t.a : Int) + n := IntWalk.i64_in _ (by omega)
        have ht1 : ((t.a : Int) + n).toNat = t.a + n := by omega
        go_quiet (fail)
        clear hw1
        go_wp2
        go_roundw
        case rel => exact ⟨t.a + n, k + 1, by omega, by go_num, by go_num, Q5.out, (BR.out.alloc BR.out.size _).trans (below_draws _ _ _)⟩
        case measure => simp [intOf]; omega
      · have hn1 : n = 1 := by rw [← hn, q4]; rfl
        subst hn1
        have hlt : t.a < s.size := by omega
        have hbyte := byte_text hlt q7
        have hx : s.extract t.a (t.a + 1) = ⟨#[10]⟩ := by rw [ext_mk, q7]
        rw [hn] at Q5
        obtain ⟨tk, tt, ta⟩ := t
        obtain rfl : tt = [59] := q4
        obtain rfl : tk = 4 := q6
        have z1 : m ≤ ta := q1
        have z2 : ta < s.size := hlt
        have z3 : s[ta].toNat = 10 := hbyte
        have z4 : s.extract ta (ta + 1) = ⟨#[10]⟩ := hx
        have z5 : Hid (Plc s.data.toList (ta + 1) (L.drop (k + 1))) := Q5
        have z6 : wr.cell? ⟨g, k * 3, none⟩ = some (.int .i64 4) := d0
        have z7 : wr.cell? ⟨g, k * 3 + 1, none⟩ = some (.string ⟨#[59]⟩) := d1
        have z8 : wr.cell? ⟨g, k * 3 + 2, none⟩ = some (.int .i64 (ta : Int)) := d2
        clear q7 hn hsz q2 q3 f1 f2 f3 f4 f5 f6 f7 hlt hbyte hx Q5 d0 d1 d2 q1
        have f1 : decide ((ta : Int) < (m : Int)) = false := by simp; omega
        have f2 : decide (ta < m) = false := by simp; omega
        have f3 : decide ((s.size : Int) - 1 < (ta : Int)) = false := by simp; omega
        have f4 : (0 : Int) ≤ (ta : Int) := by omega
        have f5 : (ta : Int) ≤ (ta : Int) + 1 := by omega
        have f6 : (ta : Int) + 1 ≤ (s.size : Int) := by omega
        have f7 : (0 : Int) ≤ (ta : Int) + 1 := by omega
        have f8 : (ta : Int) < (s.size : Int) := by omega
        go_wp2_with fail
        have hw1 : IntKind.i64.wrap ((ta : Int) + 1) = (ta : Int) + 1 := IntWalk.i64_in _ (by omega)
        have ht1 : ((ta : Int) + 1).toNat = ta + 1 := by omega
        go_quiet (fail)
        clear hw1
        go_wp2
        go_roundw
        case rel => exact ⟨ta + 1, k + 1, by omega, by go_num, by go_num, z5.out, (BR.out.alloc BR.out.size _).trans (below_draws _ _ _)⟩
        case measure => simp [intOf]; omega
    · obtain rfl : k = L.length := by omega
      have hd3 : decide ((L.length : Int) < (L.length : Int)) = false := by simp
      go_wp2
      go_ret
      exact ⟨rfl, B2.out.trans (BR.out.mono B2.out.size)⟩
end Go.Proofs.YtaalgkcbknlccaaDoor
