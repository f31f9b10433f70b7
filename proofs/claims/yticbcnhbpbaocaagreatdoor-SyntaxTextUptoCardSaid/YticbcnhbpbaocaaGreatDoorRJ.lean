/-
  The walks of the specification's fields, isDecl and Valid.
-/
import Derived.Test.YticbcnhbpbaocaaGreatDoorRI
import Derived.Test.YticbcnhbpbaocaaGreatDoorCD
set_option linter.all false
namespace Go.Proofs.YticbcnhbpbaocaaGreatDoor
open Go.RowKit T T.Fo
theorem kd3 {h : Hd} (e : h.kind = 3) (k : Fo) : kdOk nmv 3 h k = (nmv h.text && true && one1 (tyOk nmv) k) := by
  rw [kdq 3 (l := [isT]) e (by rw [e]; try rfl) (by unfold textFits namedK; rw [e]; try rfl) (by unfold numFits; rw [e]; try rfl), fitv_one]; rfl
theorem kd5 {h : Hd} (e : h.kind = 5) (k : Fo) : kdOk nmv 5 h k = ((h.text.data.toList == []) && true && allB (kdOk nmv 3) k) := by
  rw [kdq 5 (l := List.replicate k.len (T.one [3])) e (by rw [e]; try rfl) (by unfold textFits namedK; rw [e]; try rfl) (by unfold numFits; rw [e]; try rfl), fitv_rep, one_kd]; rfl
/-- What a walk over fields asks of the texts. -/
def TxOk : Fo → Prop := fun F => F.AllH numIx
set_option maxRecDepth 100000 in
set_option maxHeartbeats 4000000 in
theorem fields_any (F : Fo) (A : Option Addr) (cap : Nat) (w : World) (hfl : F.len ≤ 1048576) (hF : F.AllH numIx) (hk : Kids (Lt w.heap.size) w A F) : CB' 46 w (.slice A F.len cap) (allB (kdOk nmv 3) F) := by
  have HS := Lib.hid (Rest.start hk)
  have HF := Lib.hid hF
  clear hk hF
  go_enter Tryz.func46, Tryz.ntmps46
  go_wp2
  go_loopw [3] (fun ix wr => ∃ (i : Nat) (R : Fo), ix = .int .i64 (i : Int) ∧ Rest (Lt w.heap.size) w A F i R ∧ (allB (kdOk nmv 3) F = allB (kdOk nmv 3) R) ∧ R.AllH numIx ∧ Below w.heap.size w wr) (fun ix _ => F.len - (intOf ix).toNat)
  case atStart => exact ⟨0, F, rfl, HS.out, rfl, HF.out, Below.refl _ _⟩
  case round =>
    obtain ⟨i, R, rfl, hr, hq, hP, hb⟩ := hrel
    have HQ := Lib.hid hq
    have HB := Lib.hid hb
    clear HS HF hq
    cases R with
    | nil =>
      have hi := hr.stop
      subst hi
      clear hr hP hb
      go_wp2
      go_ret
      exact ⟨ret_bool HQ.out.symm, HB.out⟩
    | cons h' k' r =>
      obtain ⟨g, o, A', cap', rfl, ⟨c0, c1, c2, c3, c4, c5, c6, c7, c8⟩, hkc, hk', _, hi1, hg⟩ := (hr.below hb (Nat.le_refl _)).next
      have HR2 := Lib.hid hr.tail
      obtain ⟨p0, p1, p2⟩ := hP
      have HP2 := Lib.hid p2
      have hkw : Kids (Lt wr.heap.size) wr A' k' := hk'.mono hb.size
      have hj : (i : Int) < (F.len : Int) := by omega
      have hj0 : (0 : Int) ≤ (i : Int) := by omega
      have HBAD : Hid (kdOk nmv 3 h' k' = false → allB (kdOk nmv 3) F = false) := Lib.hid fun hx => by rw [HQ.out]; show (kdOk nmv 3 h' k' && _) = false; rw [hx]; rfl
      have HGO : Hid (kdOk nmv 3 h' k' = true → allB (kdOk nmv 3) F = allB (kdOk nmv 3) r) := Lib.hid fun hx => by rw [HQ.out]; show (kdOk nmv 3 h' k' && _) = _; rw [hx]; rfl
      clear hr hb hk' hkc hg p2
      by_cases e3 : h'.kind = 3
      · have k3 : (h'.kind == 3) = true := by simpa using e3
        have k3' : (h'.kind != 3) = false := by simpa using e3
        cases hv : nmv h'.text with
        | false =>
          have HN := Lib.hid (name_no hv p0.2)
          have HK : Hid (kdOk nmv 3 h' k' = false) := Lib.hid (by rw [kd3 e3, hv, Bool.false_and, Bool.false_and])
          obtain ⟨l, hl2⟩ : ∃ l, k'.len = l := ⟨_, rfl⟩
          rw [hl2] at c4
          clear hkw p0 p1 e3 hl2 hv
          go_wp2_with (go_at_call 45; refine (HN.out _).mono ?_; rintro e w' ⟨rfl, rfl⟩)
          go_ret
          exact ⟨ret_bool (HBAD.out HK.out).symm, HB.out⟩
        | true =>
          have HN := Lib.hid (name_yes hv p0.2)
          by_cases hl : k'.len = 1
          · obtain ⟨h0, k0, rfl⟩ := is1 hl
            obtain ⟨g2, o2, A0, q0, rfl, ⟨d0, d1, d2, d3, d4, d5, d6, d7, d8⟩, hk0, hg2⟩ := kidv1 hkw
            have HT : Hid (∀ V, CB' 49 V (nv h0 A0 k0.len q0) (tyOk nmv h0 k0)) := Lib.hid fun V => rIsType_any h0 k0 A0 q0 V p1.1.2
            obtain ⟨a, ha⟩ : ∃ v, tyOk nmv h0 k0 = v := ⟨_, rfl⟩
            have HK : Hid (kdOk nmv 3 h' (.cons h0 k0 .nil) = a) := Lib.hid (by
              rw [kd3 e3, hv, ← ha]
              rfl)
            rw [ha] at HT
            obtain ⟨n0, hn0⟩ : ∃ n, k0.len = n := ⟨_, rfl⟩
            rw [hn0] at HT d4
            have hl1 : (Fo.cons h0 k0 .nil).len = 1 := rfl
            rw [hl1] at c4
            clear ha hn0 hl1 hkw hk0 p0 p1 e3 hl hv
            cases a with
            | true =>
              go_wp2_with (first
                | (go_at_call 45; refine (HN.out _).mono ?_; rintro e w' ⟨rfl, rfl⟩)
                | (go_at_call 49; refine (HT.out _).mono ?_; rintro e V ⟨rfl, hb⟩; have HB2 := Lib.hid (HB.out.trans (hb.mono HB.out.size)); clear hb c0 c1 c2 c3 c4 c5 c6 c7 c8 d0 d1 d2 d3 d4 d5 d6 d7 d8))
              go_roundw
              case rel => exact ⟨i + 1, r, by go_num, HR2.out, HGO.out HK.out, HP2.out, HB2.out⟩
              case measure => simp [intOf]; omega
            | false =>
              go_wp2_with (first
                | (go_at_call 45; refine (HN.out _).mono ?_; rintro e w' ⟨rfl, rfl⟩)
                | (go_at_call 49; refine (HT.out _).mono ?_; rintro e V ⟨rfl, hb⟩; have HB2 := Lib.hid (HB.out.trans (hb.mono HB.out.size)); clear hb c0 c1 c2 c3 c4 c5 c6 c7 c8 d0 d1 d2 d3 d4 d5 d6 d7 d8))
              go_ret
              exact ⟨ret_bool (HBAD.out HK.out).symm, HB2.out⟩
          · have HK : Hid (kdOk nmv 3 h' k' = false) := Lib.hid (by rw [kd3 e3, one1_len hl, Bool.and_false])
            obtain ⟨l, hl2⟩ : ∃ l, k'.len = l := ⟨_, rfl⟩
            rw [hl2] at c4 hl
            have hne : ((l : Int) == 1) = false := by rw [ieq1]; simpa using hl
            have hne2 : ((l : Int) != 1) = true := by rw [bne, hne]; rfl
            clear hkw p0 p1 e3 hl hl2 hv
            go_wp2_with (go_at_call 45; refine (HN.out _).mono ?_; rintro e w' ⟨rfl, rfl⟩)
            go_ret
            exact ⟨ret_bool (HBAD.out HK.out).symm, HB.out⟩
      · have k3 : (h'.kind == 3) = false := by simpa using e3
        have k3' : (h'.kind != 3) = true := by simpa using e3
        have HK : Hid (kdOk nmv 3 h' k' = false) := Lib.hid (kd_no e3 k')
        obtain ⟨l, hl2⟩ : ∃ l, k'.len = l := ⟨_, rfl⟩
        rw [hl2] at c4
        clear hkw p0 p1 e3 hl2
        go_wp2
        go_ret
        exact ⟨ret_bool (HBAD.out HK.out).symm, HB.out⟩
theorem fields_at {F : Fo} (hF : F.AllH numIx) (hfl : F.len ≤ 1048576) {A : Option Addr} {cap : Nat} {w : World} (hk : Kids (Lt w.heap.size) w A F) : At 46 w (.slice A F.len cap) (allB (kdOk nmv 3) F) := fun V hV => fields_any F A cap V hfl hF (kids_at' hk hV)
theorem deq {h : Hd} {k : Fo} {l : List Pl} {t n : Bool} (e : declT h k = true) (p : places h.kind k.len = l) (ht : textFits nmv h = t) (hn : numFits h = n) : deOk nmv h k = (t && n && (fits l k && okF nmv k)) := by
  unfold deOk; rw [e, okT_of nmv p, ht, hn]; rfl
theorem de2 (nu po tk rf up : Int) (tn tx : ByteArray) (k : Fo) : deOk nmv ⟨2, tx, nu, po, tk, tn, rf, up⟩ k = (nmv tx && true && allB (kdOk nmv 3) k) := by
  rw [deq (l := List.replicate k.len (T.one [3])) rfl rfl rfl rfl, fitv_rep, one_kd]; rfl
theorem teq' : (fun h k => opt isT h k && okT nmv h k) = fun h k => (noOk nmv h k || tyOk nmv h k) := by
  funext h k
  unfold opt isT noOk tyOk
  by_cases e : h.kind = 9 <;> simp [e] <;> cases okT nmv h k <;> simp [e]
theorem de4 (nu po tk rf up : Int) (tn tx : ByteArray) (k : Fo) : deOk nmv ⟨4, tx, nu, po, tk, tn, rf, up⟩ k = (nmv tx && true && thr3 (kdOk nmv 5) (fun h k => (noOk nmv h k || tyOk nmv h k)) (kdOk nmv 10) k) := by
  rw [deq (l := [T.one [5], opt isT, T.one [10]]) rfl rfl rfl rfl, fitv_thr, one_kd, one_kd, teq']; rfl
theorem de6 (nu po tk rf up : Int) (tn tx : ByteArray) (h0 h1 : Hd) (k0 k1 : Fo) : deOk nmv ⟨6, tx, nu, po, tk, tn, rf, up⟩ (.cons h0 k0 (.cons h1 k1 .nil)) = (kdOk nmv 6 ⟨6, tx, nu, po, tk, tn, rf, up⟩ (.cons h0 k0 (.cons h1 k1 .nil)) && noOk nmv h1 k1) := by
  have e : deOk nmv ⟨6, tx, nu, po, tk, tn, rf, up⟩ (.cons h0 k0 (.cons h1 k1 .nil)) = ((h1.kind == 9) && kdOk nmv 6 ⟨6, tx, nu, po, tk, tn, rf, up⟩ (.cons h0 k0 (.cons h1 k1 .nil))) := rfl
  rw [e, kd6]
  show (_ && (_ && _ && (tyOk nmv h0 k0 && (noOk nmv h1 k1 || exOk nmv h1 k1)))) = _
  unfold noOk exOk
  by_cases e9 : h1.kind = 9
  · simp only [e9, two2]
    simp [exprK]
    try (cases okT nmv h1 k1 <;> simp)
  · simp [e9]
end Go.Proofs.YticbcnhbpbaocaaGreatDoor
