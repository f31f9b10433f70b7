/-
  The walks of the program's Equal and of slices.EqualFunc at two rows of nodes.
-/
import Derived.Test.YticbcnhbpbaocaaGreatDoorCB
import Derived.Test.YticbcnhbpbaocaaGreatDoorSA

set_option linter.all false
namespace Go.Proofs.YticbcnhbpbaocaaGreatDoor
open Go.RowKit T T.Fo

/-- Equal's contract at a tree. -/
def SEqP (h : Hd) (F : Fo) : Prop := ∀ (h' : Hd) (F' : Fo) (A A' : Option Addr) (cap cap' : Nat) (w : World), Kids (Lt w.heap.size) w A F → Kids (Lt w.heap.size) w A' F' → F.cnt ≤ 1048576 → F'.cnt ≤ 1048576 →
    Calls Tryz.prog 19 #[nv h A F.len cap, nv h' A' F'.len cap'] w fun e w' => e = .returned (.bool (eqT h F h' F')) ∧ Below w.heap.size w w'

theorem kids_al2 {w wr : World} {A : Option Addr} {F : Fo} {B : Nat} (h : Kids (Lt B) wr A F) (hB : B ≤ wr.heap.size) (o1 o2 : Obj) : Kids (Lt ((wr.alloc o1).alloc o2).heap.size) ((wr.alloc o1).alloc o2) A F :=
  (h.below (((Below.refl wr.heap.size wr).alloc (Nat.le_refl _) o1).alloc (by simp) o2) hB).mono (by simp; omega)

set_option maxRecDepth 100000 in
set_option maxHeartbeats 2000000 in
theorem eqfunc_any (F F' : Fo) (hP : F.All SEqP) (A A' : Option Addr) (cap cap' : Nat) (w : World) (hk : Kids (Lt w.heap.size) w A F) (hk' : Kids (Lt w.heap.size) w A' F') (hm : F.cnt ≤ 1048576) (hm' : F'.cnt ≤ 1048576) :
    Calls Tryz.prog 34 #[.slice A F.len cap, .slice A' F'.len cap', .func (.func 19) #[] #[]] w fun e w' => e = .returned (.bool (eqF F F')) ∧ Below w.heap.size w w' := by
  have HP := Lib.hid hP
  have HR := Lib.hid (Rest.start hk)
  have HR' := Lib.hid (Rest.start hk')
  have hlen : F.len ≤ F.cnt := F.len_le_cnt
  have hlen' : F'.len ≤ F'.cnt := F'.len_le_cnt
  clear hP hk hk'
  obtain ⟨m, hmm⟩ : ∃ m, F.len = m := ⟨_, rfl⟩
  obtain ⟨m2, hmm2⟩ : ∃ m, F'.len = m := ⟨_, rfl⟩
  have hfl : m ≤ 1048576 := by omega
  rw [hmm, hmm2]
  have HM := Lib.hid hmm
  have HM2 := Lib.hid hmm2
  by_cases hne : m = m2
  · subst hne
    have e0 : ((m : Int) != (m : Int)) = false := by simp
    clear hlen hlen' hmm hmm2
    go_enter Tryz.func34, Tryz.ntmps34
    go_wp2
    go_loopw [17] (fun ix wr => ∃ (i : Nat) (R R' : Fo), ix = .int .i64 (i : Int) ∧ Rest (Lt w.heap.size) w A F i R ∧ Rest (Lt w.heap.size) w A' F' i R' ∧ R.All SEqP ∧ eqF F F' = eqF R R' ∧ R.cnt ≤ F.cnt ∧ R'.cnt ≤ F'.cnt ∧ Below w.heap.size w wr) (fun ix _ => m - (intOf ix).toNat)
    case atStart => exact ⟨0, F, F', rfl, HR.out, HR'.out, HP.out, rfl, Nat.le_refl _, Nat.le_refl _, Below.refl _ _⟩
    case round =>
      obtain ⟨i, R, R', rfl, hr, hr', hP, hs, hb1, hb2, hb⟩ := hrel
      have HB := Lib.hid hb
      have hz := hb.size
      have HS := Lib.hid hs
      cases R with
      | nil =>
        have hi := hr.stop
        rw [HM.out] at hi
        have hR' : R' = .nil := Fo.len_zero (by have := hr'.1; have := HM2.out; omega)
        subst hi hR'
        clear hP hs hr hr' hb
        go_wp2
        go_ret
        exact ⟨ret_bool (by rw [HS.out, eqF_nil]), HB.out⟩
      | cons hd kd r =>
        cases R' with
        | nil =>
          exfalso
          have e1 := hr.1
          have e2 := hr'.1
          have e3 := HM.out
          have e4 := HM2.out
          simp only [Fo.len] at e1 e2
          omega
        | cons hd' kd' r' =>
          obtain ⟨g, o, B, cb, rfl, ⟨a0, a1, a2, a3, a4, a5, a6, a7, a8⟩, _, hk1, _, hi1, hg1⟩ := (hr.below hb (Nat.le_refl _)).next
          obtain ⟨g', o', B', cb', rfl, ⟨d0, d1, d2, d3, d4, d5, d6, d7, d8⟩, _, hk2, _, hi2, hg2⟩ := (hr'.below hb (Nat.le_refl _)).next
          have hrw := hr.tail
          have hrw' := hr'.tail
          rw [eqF_cons] at hs
          have HS2 := Lib.hid hs
          obtain ⟨p1, p2⟩ := hP
          simp only [Fo.cnt] at hb1 hb2
          have HC := Lib.hid (fun o1 o2 => p1 hd' kd' B B' cb cb' ((wr.alloc o1).alloc o2) (kids_al2 (w := w) hk1 hz o1 o2) (kids_al2 (w := w) hk2 hz o1 o2) (by omega) (by omega))
          have HP2 := Lib.hid p2
          have HR1 := Lib.hid hrw
          have HR2 := Lib.hid hrw'
          rw [HM.out] at hi1
          rw [HM2.out] at hi2
          have hg1' : g < w.heap.size := hg1
          have hg2' : g' < w.heap.size := hg2
          have hzg : g < wr.heap.size := by omega
          have hzg' : g' < wr.heap.size := by omega
          clear hr hr' p1 p2 hk1 hk2 hrw hrw' hs HS hb hg1 hg2
          have hj1 : (i : Int) < (m : Int) := by omega
          have HL : Hid (∀ o1 o2 w2, Below ((wr.alloc o1).alloc o2).heap.size ((wr.alloc o1).alloc o2) w2 → Below w.heap.size w w2) := fun o1 o2 w2 hb => HB.out.trans ((((Below.refl w.heap.size wr).alloc hz o1).alloc (by simp; omega) o2).trans (hb.mono (by simp; omega)))
          by_cases hv : eqT hd kd hd' kd' = true
          · have HV := Lib.hid hv
            rw [hv] at HC
            clear hv
            go_wp2_with fail
            refine (HC.out _ _).mono ?_
            rintro e w2 ⟨rfl, hb⟩
            have B2 := Lib.hid (HL.out _ _ _ hb)
            clear hb a0 a1 a2 a3 a4 a5 a6 a7 a8 d0 d1 d2 d3 d4 d5 d6 d7 d8
            go_wp2
            go_roundw
            case rel => exact ⟨i + 1, r, r', by go_num, HR1.out, HR2.out, HP2.out, by rw [HS2.out, HV.out, Bool.true_and], by omega, by omega, B2.out⟩
            case measure => simp [intOf]; omega
          · have hv0 : eqT hd kd hd' kd' = false := by simpa using hv
            have HV := Lib.hid hv0
            rw [hv0] at HC
            clear hv hv0
            go_wp2_with fail
            refine (HC.out _ _).mono ?_
            rintro e w2 ⟨rfl, hb⟩
            have B2 := Lib.hid (HL.out _ _ _ hb)
            clear hb
            go_wp2
            go_ret
            exact ⟨ret_bool (by rw [HS2.out, HV.out, Bool.false_and]), B2.out⟩
  · have e0 : ((m : Int) != (m2 : Int)) = true := by simp; omega
    have HE := Lib.hid (eqF_len (a := F) (b := F') (by omega))
    clear hlen hlen' hmm hmm2
    go_enter Tryz.func34, Tryz.ntmps34
    go_wp2
    go_ret
    exact ⟨ret_bool HE.out.symm, Below.refl _ _⟩

set_option maxRecDepth 100000 in
set_option maxHeartbeats 2000000 in
theorem sequal_v (k : Int) (t : ByteArray) (n p tk : Int) (tn : ByteArray) (r u k2 : Int) (t2 : ByteArray) (n2 p2 tk2 : Int) (tn2 : ByteArray) (r2 u2 : Int) (F F' : Fo) (hP : F.All SEqP) (A A' : Option Addr) (cap cap' : Nat) (w : World) (hk : Kids (Lt w.heap.size) w A F) (hk' : Kids (Lt w.heap.size) w A' F') (hm : F.cnt ≤ 1048576) (hm' : F'.cnt ≤ 1048576) (v : Bool) (hv : counts ⟨k, t, n, p, tk, tn, r, u⟩ = v)
    (HC : Hid (∀ wz, Calls Tryz.prog 33 #[nv ⟨k, t, n, p, tk, tn, r, u⟩ A F.len cap] wz fun e w' => e = .returned (.bool v) ∧ w' = wz.alloc (.cells (nc ⟨k, t, n, p, tk, tn, r, u⟩ A F.len cap) 26))) :
    Calls Tryz.prog 19 #[nv ⟨k, t, n, p, tk, tn, r, u⟩ A F.len cap, nv ⟨k2, t2, n2, p2, tk2, tn2, r2, u2⟩ A' F'.len cap'] w fun e w' => e = .returned (.bool (eqT ⟨k, t, n, p, tk, tn, r, u⟩ F ⟨k2, t2, n2, p2, tk2, tn2, r2, u2⟩ F')) ∧ Below w.heap.size w w' := by
  have HE := Lib.hid (fun (W : World) (hb : Below w.heap.size w W) => eqfunc_any F F' hP A A' cap cap' W ((hk.below hb (Nat.le_refl _)).mono hb.size) ((hk'.below hb (Nat.le_refl _)).mono hb.size) hm hm')
  have HV := Lib.hid hv
  clear hP hk hk' hm hm' hv
  have HBB : Hid (∀ o1 o2 w2, Below ((w.alloc o1).alloc o2).heap.size ((w.alloc o1).alloc o2) w2 → Below w.heap.size w w2) := fun o1 o2 w2 hb => (below2 w o1 o2).trans (hb.mono (by simp; omega))
  have HBB3 : Hid (∀ o1 o2 o3 w2, Below (((w.alloc o1).alloc o2).alloc o3).heap.size (((w.alloc o1).alloc o2).alloc o3) w2 → Below w.heap.size w w2) := fun o1 o2 o3 w2 hb => (below3 w o1 o2 o3).trans (hb.mono (by simp; omega))
  have HQ : Hid (k = k2 → t.toList = t2.toList → (v = true → n = n2) → eqF F F' = eqT ⟨k, t, n, p, tk, tn, r, u⟩ F ⟨k2, t2, n2, p2, tk2, tn2, r2, u2⟩ F') := by
    intro e1 e2 e3
    have : bare ⟨k, t, n, p, tk, tn, r, u⟩ = bare ⟨k2, t2, n2, p2, tk2, tn2, r2, u2⟩ := bare_eq e1 (string_of e2) (fun hc => e3 (by rw [← HV.out]; exact hc))
    simp [eqF, eqT, this]
  cases v
  · go_enter Tryz.func19, Tryz.ntmps19
    go_wp2_with (go_at_call 33; refine (HC.out _).mono ?_; rintro e w' ⟨rfl, rfl⟩)
    all_goals first
      | (refine (HE.out _ (below2 w _ _)).mono ?_; rintro e w' ⟨rfl, hb⟩; have B2 := Lib.hid (HBB.out _ _ _ hb); clear hb; go_wp2; go_ret; exact ⟨ret_bool (HQ.out ‹_› ‹_› (fun h => by cases h)), B2.out⟩)
      | (refine (HE.out _ (below3 w _ _ _)).mono ?_; rintro e w' ⟨rfl, hb⟩; have B2 := Lib.hid (HBB3.out _ _ _ _ hb); clear hb; go_wp2; go_ret; exact ⟨ret_bool (HQ.out ‹_› ‹_› (fun h => by cases h)), B2.out⟩)
      | (go_ret; refine ⟨ret_bool (eqT_no ?_).symm, below2 w _ _⟩; rintro ⟨e1, e2, e3, e4⟩; dsimp only at e1 e2 e3 e4; first | contradiction | (subst e2; contradiction))
      | (go_ret; refine ⟨ret_bool (eqT_no ?_).symm, below3 w _ _ _⟩; rintro ⟨e1, e2, e3, e4⟩; dsimp only at e1 e2 e3 e4; first | contradiction | (subst e2; contradiction))
  · go_enter Tryz.func19, Tryz.ntmps19
    go_wp2_with (go_at_call 33; refine (HC.out _).mono ?_; rintro e w' ⟨rfl, rfl⟩)
    all_goals first
      | (refine (HE.out _ (below2 w _ _)).mono ?_; rintro e w' ⟨rfl, hb⟩; have B2 := Lib.hid (HBB.out _ _ _ hb); clear hb; go_wp2; go_ret; exact ⟨ret_bool (HQ.out ‹_› ‹_› (fun _ => ‹_›)), B2.out⟩)
      | (go_ret; refine ⟨ret_bool (eqT_no ?_).symm, below2 w _ _⟩; rintro ⟨e1, e2, e3, e4⟩; dsimp only at e1 e2 e3 e4; first | contradiction | (subst e2; contradiction) | exact absurd (e4 HV.out) ‹_›)
      | (go_ret; refine ⟨ret_bool (eqT_no ?_).symm, below3 w _ _ _⟩; rintro ⟨e1, e2, e3, e4⟩; dsimp only at e1 e2 e3 e4; first | contradiction | (subst e2; contradiction) | exact absurd (e4 HV.out) ‹_›)
theorem sequal_any (h : Hd) (F : Fo) : SEqP h F := by
  refine Fo.ind (P := SEqP) ?_ h F
  clear h F
  intro h F ih h' F' A A' cap cap' w hk hk' hml hml'
  by_cases hc : counts h = true
  · refine sequal_v h.kind h.text h.num h.pos h.tk h.tn h.ref h.up h'.kind h'.text h'.num h'.pos h'.tk h'.tn h'.ref h'.up F F' ih A A' cap cap' w hk hk' hml hml' true hc (fun wz => hasNum_at h A F.len cap wz true ?_)
    unfold counts at hc
    by_cases h24 : h.kind = 24
    · exact .inr ⟨by simp [h24], rfl⟩
    · exact .inl ⟨by simp [h24], by simpa [h24] using hc⟩
  · refine sequal_v h.kind h.text h.num h.pos h.tk h.tn h.ref h.up h'.kind h'.text h'.num h'.pos h'.tk h'.tn h'.ref h'.up F F' ih A A' cap cap' w hk hk' hml hml' false (by simpa using hc) (fun wz => hasNum_at h A F.len cap wz false ?_)
    unfold counts at hc
    simp at hc
    exact .inl ⟨by simp [hc.1], by simp [hc.2]⟩
end Go.Proofs.YticbcnhbpbaocaaGreatDoor
