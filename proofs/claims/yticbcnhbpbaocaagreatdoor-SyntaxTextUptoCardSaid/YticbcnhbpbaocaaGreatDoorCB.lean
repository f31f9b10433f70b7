/-
  The walk of the specification's Same.
  The walks of the specification's counts and Equal.
-/
import Derived.Test.YticbcnhbpbaocaaGreatDoorCA
import Derived.StillTailTactics

set_option linter.all false
namespace Go.Proofs.YticbcnhbpbaocaaGreatDoor
open Go.RowKit T T.Fo

theorem string_of {a b : ByteArray} (h : a.toList = b.toList) : a = b := by
  rw [ByteArray.toList_eq, ByteArray.toList_eq] at h
  exact Go.WideShapes.bytes_inj h

/-- Same's contract at a tree. -/
def SameP (h : Hd) (F : Fo) : Prop := ∀ (h' : Hd) (F' : Fo) (A A' : Option Addr) (cap cap' : Nat) (w : World), Kids (Lt w.heap.size) w A F → Kids (Lt w.heap.size) w A' F' → F.cnt ≤ maxLen → F'.cnt ≤ maxLen →
    Calls Tryz.prog 17 #[nv h A F.len cap, nv h' A' F'.len cap'] w fun e w' => e = .returned (.bool (sameT h F h' F')) ∧ Below w.heap.size w w'

theorem sameT_no {h h' : Hd} {F F' : Fo} (hn : ¬ (h = h' ∧ F = F')) : sameT h F h' F' = false := by
  unfold sameT
  exact decide_eq_false hn
theorem fo_ne {F F' : Fo} (h : ((F.len : Int) != (F'.len : Int)) = true) : F ≠ F' := by
  rintro rfl
  simp at h
theorem below2 (w : World) (o1 o2 : Obj) : Below w.heap.size w ((w.alloc o1).alloc o2) := ((Below.refl _ _).alloc (Nat.le_refl _) _).alloc (by simp) _

/-- What holds at the head of a round of a loop over two rows. -/
structure Two (w wr : World) (A A' : Option Addr) (cap cap' : Nat) (F F' : Fo) (i : Nat) (R R' : Fo) : Prop where
  r1 : Rest (Lt w.heap.size) wr A F i R
  r2 : Rest (Lt w.heap.size) wr A' F' i R'
  b : Below w.heap.size w wr
  z : w.heap.size + 1 < wr.heap.size
  c1 : wr.cell? ⟨w.heap.size, 4, none⟩ = some (.slice A F.len cap)
  c2 : wr.cell? ⟨w.heap.size + 1, 4, none⟩ = some (.slice A' F'.len cap')
theorem Two.next {w wr w2 : World} {A A' : Option Addr} {cap cap' i j : Nat} {F F' R R' r r' : Fo} (H : Two w wr A A' cap cap' F F' i R R') (hb : Below wr.heap.size wr w2) (h1 : Rest (Lt w.heap.size) wr A F j r) (h2 : Rest (Lt w.heap.size) wr A' F' j r') :
    Two w w2 A A' cap cap' F F' j r r' :=
  ⟨h1.below hb (by have := H.z; omega), h2.below hb (by have := H.z; omega), H.b.trans (hb.mono (by have := H.z; omega)), by have := H.z; have := hb.size; omega,
   (hb.cell (p := ⟨w.heap.size, 4, none⟩) (by have := H.z; show w.heap.size < _; omega)).trans H.c1, (hb.cell (p := ⟨w.heap.size + 1, 4, none⟩) H.z).trans H.c2⟩

set_option maxRecDepth 100000 in
set_option maxHeartbeats 2000000 in
theorem same_any (h : Hd) (F : Fo) : SameP h F := by
  refine Fo.ind (P := SameP) ?_ h F
  clear h F
  intro h F ih h' F' A A' cap cap' w hk hk' hml hml'
  have HI := Lib.hid ih
  have HT : Hid (∀ o1 o2, Kids (Lt w.heap.size) ((w.alloc o1).alloc o2) A F ∧ Kids (Lt w.heap.size) ((w.alloc o1).alloc o2) A' F') := fun o1 o2 => ⟨hk.below (below2 w o1 o2) (Nat.le_refl _), hk'.below (below2 w o1 o2) (Nat.le_refl _)⟩
  have hlen : F.len ≤ F.cnt := F.len_le_cnt
  have hlen' : F'.len ≤ F'.cnt := F'.len_le_cnt
  unfold maxLen at hml hml'
  have hfl : F.len ≤ 9223372036854775807 := by omega
  clear ih hk hk'
  obtain ⟨k, t, n, p, tk, tn, r, u⟩ := h
  obtain ⟨k2, t2, n2, p2, tk2, tn2, r2, u2⟩ := h'
  go_enter Tryz.func17, Tryz.ntmps17
  go_wp2
  all_goals try (go_ret; exact ⟨ret_bool (sameT_no (by rintro ⟨he, hF⟩; first | exact fo_ne ‹_› hF | (injection he; subst_vars; contradiction))).symm, below2 w _ _⟩)
  have ht := string_of (a := t) (b := t2) ‹_›
  have htn := string_of (a := tn) (b := tn2) ‹_›
  obtain rfl : k = k2 := by assumption
  obtain rfl : n = n2 := by assumption
  obtain rfl : p = p2 := by assumption
  obtain rfl : tk = tk2 := by assumption
  obtain rfl : r = r2 := by assumption
  obtain rfl : u = u2 := by assumption
  subst ht htn
  have hll : ((F.len : Int) != (F'.len : Int)) = false := by assumption
  have hl2 : F.len = F'.len := by simp at hll; omega
  have HL := Lib.hid hl2
  rw [hll]
  clear hl2 hll
  go_loopw [5] (fun ix wr => ∃ (i : Nat) (R R' : Fo), ix = .int .i64 (i : Int) ∧ Two w wr A A' cap cap' F F' i R R' ∧ R.All SameP ∧ sameF F F' = sameF R R' ∧ R.cnt ≤ F.cnt ∧ R'.cnt ≤ F'.cnt) (fun ix _ => F.len - (intOf ix).toNat)
  case atStart => exact ⟨0, F, F', rfl, ⟨Rest.start (HT.out _ _).1, Rest.start (HT.out _ _).2, below2 w _ _, by simp, by simp, by simp⟩, HI.out, rfl, Nat.le_refl _, Nat.le_refl _⟩
  case round =>
    obtain ⟨i, R, R', rfl, hT, hP, hs, hb1, hb2⟩ := hrel
    have hz := hT.z
    have hc1 := hT.c1
    have hc2 := hT.c2
    have HTT := Lib.hid hT
    have HS := Lib.hid hs
    cases R with
    | nil =>
      have hi := hT.r1.stop
      have hR' : R' = .nil := Fo.len_zero (by have := hT.r2.1; have := HL.out; omega)
      subst hi hR'
      clear hP hs hT
      go_wp2
      go_ret
      refine ⟨ret_bool ?_, HTT.out.b⟩
      have : F = F' := by have := HS.out; simpa [sameF] using this
      simp [sameT, this]
    | cons hd kd r =>
      cases R' with
      | nil =>
        exfalso
        have := hT.r1.1
        have := hT.r2.1
        have := HL.out
        simp only [Fo.len] at *
        omega
      | cons hd' kd' r' =>
        obtain ⟨g, o, B, cb, rfl, ⟨a0, a1, a2, a3, a4, a5, a6, a7, a8⟩, _, hk1, hr1, hi1, hg1⟩ := hT.r1.next
        obtain ⟨g', o', B', cb', rfl, ⟨d0, d1, d2, d3, d4, d5, d6, d7, d8⟩, _, hk2, hr2, hi2, hg2⟩ := hT.r2.next
        rw [sameF_cons] at hs
        have HS2 := Lib.hid hs
        obtain ⟨p1, p2⟩ := hP
        simp only [Fo.cnt] at hb1 hb2
        have HC := Lib.hid (p1 hd' kd' B B' cb cb' wr.drew (hk1.drew (by omega)) (hk2.drew (by omega)) (by unfold maxLen; omega) (by unfold maxLen; omega))
        have HP2 := Lib.hid p2
        have HR1 := Lib.hid hr1
        have HR2 := Lib.hid hr2
        clear hT p1 p2 hk1 hk2 hr1 hr2 hs HS
        have hj1 : (i : Int) < (F.len : Int) := by omega
        have hj2 : (i : Int) < (F'.len : Int) := by omega
        by_cases hv : sameT hd kd hd' kd' = true
        · have HV := Lib.hid hv
          rw [hv] at HC
          clear hv
          go_wp2_with fail
          go_still_tail 10, (by kernel_rfl)
          go_wp2_with fail
          refine HC.out.mono ?_
          rintro e w2 ⟨rfl, hb⟩
          have T2 := Lib.hid (HTT.out.next (below_drew hb) HR1.out HR2.out)
          clear hb hc1 hc2
          have hc1 := T2.out.c1
          have hc2 := T2.out.c2
          go_wp2
          go_roundw
          case rel => exact ⟨i + 1, r, r', by go_num, T2.out, HP2.out, by rw [HS2.out, HV.out, Bool.true_and], by omega, by omega⟩
          case measure => simp [intOf]; omega
        · have hv0 : sameT hd kd hd' kd' = false := by simpa using hv
          have HV := Lib.hid hv0
          rw [hv0] at HC
          clear hv hv0
          go_wp2_with fail
          go_still_tail 10, (by kernel_rfl)
          go_wp2_with fail
          refine HC.out.mono ?_
          rintro e w2 ⟨rfl, hb⟩
          have T2 := Lib.hid (HTT.out.next (below_drew hb) HR1.out HR2.out)
          clear hb hc1 hc2
          go_wp2
          go_ret
          refine ⟨ret_bool ?_, T2.out.b⟩
          have h1 := HS2.out
          rw [HV.out, Bool.false_and] at h1
          unfold sameF at h1
          have h2 := of_decide_eq_false h1
          simp [sameT, h2]
end Go.Proofs.YticbcnhbpbaocaaGreatDoor

namespace Go.Proofs.YticbcnhbpbaocaaGreatDoor
open Go.RowKit T T.Fo

/-- Equal's contract at a tree. -/
def EqP (h : Hd) (F : Fo) : Prop := ∀ (h' : Hd) (F' : Fo) (A A' : Option Addr) (cap cap' : Nat) (w : World), Kids (Lt w.heap.size) w A F → Kids (Lt w.heap.size) w A' F' → F.cnt ≤ maxLen → F'.cnt ≤ maxLen →
    Calls Tryz.prog 20 #[nv h A F.len cap, nv h' A' F'.len cap'] w fun e w' => e = .returned (.bool (eqT h F h' F')) ∧ Below w.heap.size w w'

theorem eqT_no {h h' : Hd} {F F' : Fo} (hn : ¬ (h.kind = h'.kind ∧ h.text = h'.text ∧ F.len = F'.len ∧ (counts h = true → h.num = h'.num))) : eqT h F h' F' = false := by
  unfold eqT
  refine decide_eq_false ?_
  rintro ⟨e1, e2⟩
  have ek : h.kind = h'.kind := (Hd.mk.injEq .. ▸ e1 : _ ∧ _).1
  refine hn ⟨ek, (Hd.mk.injEq .. ▸ e1 : _ ∧ _).2.1, by rw [← strip_len F, ← strip_len F', e2], fun hc => ?_⟩
  have hc' : counts h' = true := by
    unfold counts at *
    rw [← ek]; exact hc
  have := congrArg Hd.num e1
  simpa [bare, hc, hc'] using this
theorem bare_eq {h h' : Hd} (h1 : h.kind = h'.kind) (h2 : h.text = h'.text) (h3 : counts h = true → h.num = h'.num) : bare h = bare h' := by
  have : counts h' = counts h := by unfold counts; rw [h1]
  unfold bare
  rw [this, h1, h2]
  by_cases hc : counts h = true
  · rw [if_pos hc, if_pos hc, h3 hc]
  · rw [if_neg hc, if_neg hc]

theorem al_new (w : World) (cs : Array Value) (t : TypeId) (i : Nat) : (w.alloc (.cells cs t)).cell? ⟨w.heap.size, i, none⟩ = cs[i]? := by
  have h2 : ∀ W : World, W.heap[w.heap.size]? = some (.cells cs t) → W.cell? ⟨w.heap.size, i, none⟩ = cs[i]? := fun W h => by simp [World.cell?, h]
  exact h2 _ (heap_alloc_new w (.cells cs t))
theorem al3_1 (w : World) (cs : Array Value) (t : TypeId) (o2 o3 : Obj) {i : Nat} {v : Value} (h : cs[i]? = some v := by rfl) : (((w.alloc (.cells cs t)).alloc o2).alloc o3).cell? ⟨w.heap.size, i, none⟩ = some v := by
  rw [World.cell?_alloc_lt _ _ _ (by simp; omega), World.cell?_alloc_lt _ _ _ (by simp), al_new, h]
theorem al3_2 (w : World) (cs : Array Value) (t : TypeId) (o1 o3 : Obj) {i : Nat} {v : Value} (h : cs[i]? = some v := by rfl) : (((w.alloc o1).alloc (.cells cs t)).alloc o3).cell? ⟨w.heap.size + 1, i, none⟩ = some v := by
  have e : w.heap.size + 1 = (w.alloc o1).heap.size := by simp
  rw [World.cell?_alloc_lt _ _ _ (by simp), e, al_new, h]
theorem below3 (w : World) (o1 o2 o3 : Obj) : Below w.heap.size w (((w.alloc o1).alloc o2).alloc o3) := (below2 w o1 o2).alloc (by simp; omega) _

set_option maxRecDepth 100000 in
set_option maxHeartbeats 2000000 in
theorem equal_24 (t : ByteArray) (n p tk : Int) (tn : ByteArray) (r u k2 : Int) (t2 : ByteArray) (p2 tk2 : Int) (tn2 : ByteArray) (r2 u2 : Int) (F F' : Fo) (ih : F.All EqP) (A A' : Option Addr) (cap cap' : Nat) (w : World) (hk : Kids (Lt w.heap.size) w A F) (hk' : Kids (Lt w.heap.size) w A' F') (hml : F.cnt ≤ maxLen) (hml' : F'.cnt ≤ maxLen) :
    Calls Tryz.prog 20 #[nv ⟨24, t, n, p, tk, tn, r, u⟩ A F.len cap, nv ⟨k2, t2, n, p2, tk2, tn2, r2, u2⟩ A' F'.len cap'] w fun e w' => e = .returned (.bool (eqT ⟨24, t, n, p, tk, tn, r, u⟩ F ⟨k2, t2, n, p2, tk2, tn2, r2, u2⟩ F')) ∧ Below w.heap.size w w' := by
  have HI := Lib.hid ih
  have HT : Hid (∀ o1 o2, Kids (Lt w.heap.size) ((w.alloc o1).alloc o2) A F ∧ Kids (Lt w.heap.size) ((w.alloc o1).alloc o2) A' F') := fun o1 o2 => ⟨hk.below (below2 w o1 o2) (Nat.le_refl _), hk'.below (below2 w o1 o2) (Nat.le_refl _)⟩
  have HT3 : Hid (∀ o1 o2 o3, Kids (Lt w.heap.size) (((w.alloc o1).alloc o2).alloc o3) A F ∧ Kids (Lt w.heap.size) (((w.alloc o1).alloc o2).alloc o3) A' F') := fun o1 o2 o3 => ⟨hk.below (below3 w o1 o2 o3) (Nat.le_refl _), hk'.below (below3 w o1 o2 o3) (Nat.le_refl _)⟩
  have hlen : F.len ≤ F.cnt := F.len_le_cnt
  have hlen' : F'.len ≤ F'.cnt := F'.len_le_cnt
  unfold maxLen at hml hml'
  obtain ⟨m, hm⟩ : ∃ m, F.len = m := ⟨_, rfl⟩
  obtain ⟨m2, hm2⟩ : ∃ m, F'.len = m := ⟨_, rfl⟩
  have hfl : m ≤ 9223372036854775807 := by omega
  rw [hm, hm2]
  have HM := Lib.hid hm
  have HM2 := Lib.hid hm2
  clear ih hk hk' hlen hlen' hm hm2
  go_enter Tryz.func20, Tryz.ntmps20
  go_wp2
  all_goals try (go_ret; refine ⟨ret_bool (eqT_no ?_).symm, by first | exact below2 w _ _ | exact below3 w _ _ _⟩; rintro ⟨e1, e2, e3, e4⟩; dsimp only at e1 e2 e3 e4; first | contradiction | (rw [HM.out, HM2.out] at e3; omega) | (subst e2; contradiction) | (have e5 := e4 (by simp [counts, *]); simp_all))
  all_goals (
    have HBE : Hid (bare ⟨24, t, n, p, tk, tn, r, u⟩ = bare ⟨k2, t2, n, p2, tk2, tn2, r2, u2⟩) := bare_eq (by assumption) (string_of (by assumption)) (fun _ => rfl)
    obtain rfl : m = m2 := (by have : (m : Int) = m2 := by assumption
                               omega)
    have HL : Hid (F.len = F'.len) := HM.out.trans HM2.out.symm
    have ht := string_of (a := t) (b := t2) (by assumption)
    subst ht
    obtain rfl : 24 = k2 := by assumption
    try simp only [bne_self_eq_false]
    have hc01 : ∀ wr : World, wr.cell? ⟨w.heap.size, 4, none⟩ = some (.slice A m cap) → wr.cell? ⟨w.heap.size, 4, none⟩ = some (.slice A F.len cap) := fun _ h => by rw [h, HM.out]
    have hc02 : ∀ wr : World, wr.cell? ⟨w.heap.size + 1, 4, none⟩ = some (.slice A' m cap') → wr.cell? ⟨w.heap.size + 1, 4, none⟩ = some (.slice A' F'.len cap') := fun _ h => by rw [h, HM2.out]
    have HC01 := Lib.hid hc01
    have HC02 := Lib.hid hc02
    clear hc01 hc02
    go_loopw [5] (fun ix wr => ∃ (i : Nat) (R R' : Fo), ix = .int .i64 (i : Int) ∧ Two w wr A A' cap cap' F F' i R R' ∧ R.All EqP ∧ eqF F F' = eqF R R' ∧ R.cnt ≤ F.cnt ∧ R'.cnt ≤ F'.cnt) (fun ix _ => m - (intOf ix).toNat)
    case atStart => exact ⟨0, F, F', rfl, ⟨Rest.start (HT3.out _ _ _).1, Rest.start (HT3.out _ _ _).2, below3 w _ _ _, by simp, by apply HC01.out; exact al3_1 w _ _ _ _, by apply HC02.out; exact al3_2 w _ _ _ _⟩, HI.out, rfl, Nat.le_refl _, Nat.le_refl _⟩
    case round =>
      obtain ⟨i, R, R', rfl, hT, hP, hs, hb1, hb2⟩ := hrel
      have hz := hT.z
      have hc1 := hT.c1
      have hc2 := hT.c2
      rw [HM.out] at hc1
      rw [HM2.out] at hc2
      have HTT := Lib.hid hT
      have HS := Lib.hid hs
      cases R with
      | nil =>
        have hi := hT.r1.stop
        rw [HM.out] at hi
        have hR' : R' = .nil := Fo.len_zero (by have := hT.r2.1; have := HM2.out; omega)
        subst hi hR'
        clear hP hs hT
        go_wp2
        go_ret
        refine ⟨ret_bool ?_, HTT.out.b⟩
        have h1 : F.strip = F'.strip := by have := HS.out; simpa [eqF, Fo.strip] using this
        simp [eqT, h1, HBE.out]
      | cons hd kd r =>
        cases R' with
        | nil =>
          exfalso
          have := hT.r1.1
          have := hT.r2.1
          have := HL.out
          simp only [Fo.len] at *
          omega
        | cons hd' kd' r' =>
          obtain ⟨g, o, B, cb, rfl, ⟨a0, a1, a2, a3, a4, a5, a6, a7, a8⟩, _, hk1, hr1, hi1, hg1⟩ := hT.r1.next
          obtain ⟨g', o', B', cb', rfl, ⟨d0, d1, d2, d3, d4, d5, d6, d7, d8⟩, _, hk2, hr2, hi2, hg2⟩ := hT.r2.next
          rw [eqF_cons] at hs
          have HS2 := Lib.hid hs
          obtain ⟨p1, p2⟩ := hP
          simp only [Fo.cnt] at hb1 hb2
          have HC := Lib.hid (p1 hd' kd' B B' cb cb' wr.drew (hk1.drew (by omega)) (hk2.drew (by omega)) (by unfold maxLen; omega) (by unfold maxLen; omega))
          have HP2 := Lib.hid p2
          have HR1 := Lib.hid hr1
          have HR2 := Lib.hid hr2
          clear hT p1 p2 hk1 hk2 hr1 hr2 hs HS
          rw [HM.out] at hi1
          rw [HM2.out] at hi2
          have hj1 : (i : Int) < (m : Int) := by omega
          by_cases hv : eqT hd kd hd' kd' = true
          · have HV := Lib.hid hv
            rw [hv] at HC
            clear hv
            go_wp2_with fail
            go_still_tail 10, (by kernel_rfl)
            go_wp2_with fail
            refine HC.out.mono ?_
            rintro e w2 ⟨rfl, hb⟩
            have T2 := Lib.hid (HTT.out.next (below_drew hb) HR1.out HR2.out)
            clear hb hc1 hc2
            have hc1 := T2.out.c1
            have hc2 := T2.out.c2
            rw [HM.out] at hc1
            rw [HM2.out] at hc2
            go_wp2
            go_roundw
            case rel => exact ⟨i + 1, r, r', by go_num, T2.out, HP2.out, by rw [HS2.out, HV.out, Bool.true_and], by omega, by omega⟩
            case measure => simp [intOf]; omega
          · have hv0 : eqT hd kd hd' kd' = false := by simpa using hv
            have HV := Lib.hid hv0
            rw [hv0] at HC
            clear hv hv0
            go_wp2_with fail
            go_still_tail 10, (by kernel_rfl)
            go_wp2_with fail
            refine HC.out.mono ?_
            rintro e w2 ⟨rfl, hb⟩
            have T2 := Lib.hid (HTT.out.next (below_drew hb) HR1.out HR2.out)
            clear hb hc1 hc2
            go_wp2
            go_ret
            refine ⟨ret_bool ?_, T2.out.b⟩
            have h1 := HS2.out
            rw [HV.out, Bool.false_and] at h1
            unfold eqF at h1
            have h2 := of_decide_eq_false h1
            simp [eqT, h2])

set_option maxRecDepth 100000 in
set_option maxHeartbeats 2000000 in
theorem equal_25 (t : ByteArray) (n p tk : Int) (tn : ByteArray) (r u k2 : Int) (t2 : ByteArray) (p2 tk2 : Int) (tn2 : ByteArray) (r2 u2 : Int) (F F' : Fo) (ih : F.All EqP) (A A' : Option Addr) (cap cap' : Nat) (w : World) (hk : Kids (Lt w.heap.size) w A F) (hk' : Kids (Lt w.heap.size) w A' F') (hml : F.cnt ≤ maxLen) (hml' : F'.cnt ≤ maxLen) :
    Calls Tryz.prog 20 #[nv ⟨25, t, n, p, tk, tn, r, u⟩ A F.len cap, nv ⟨k2, t2, n, p2, tk2, tn2, r2, u2⟩ A' F'.len cap'] w fun e w' => e = .returned (.bool (eqT ⟨25, t, n, p, tk, tn, r, u⟩ F ⟨k2, t2, n, p2, tk2, tn2, r2, u2⟩ F')) ∧ Below w.heap.size w w' := by
  have HI := Lib.hid ih
  have HT : Hid (∀ o1 o2, Kids (Lt w.heap.size) ((w.alloc o1).alloc o2) A F ∧ Kids (Lt w.heap.size) ((w.alloc o1).alloc o2) A' F') := fun o1 o2 => ⟨hk.below (below2 w o1 o2) (Nat.le_refl _), hk'.below (below2 w o1 o2) (Nat.le_refl _)⟩
  have HT3 : Hid (∀ o1 o2 o3, Kids (Lt w.heap.size) (((w.alloc o1).alloc o2).alloc o3) A F ∧ Kids (Lt w.heap.size) (((w.alloc o1).alloc o2).alloc o3) A' F') := fun o1 o2 o3 => ⟨hk.below (below3 w o1 o2 o3) (Nat.le_refl _), hk'.below (below3 w o1 o2 o3) (Nat.le_refl _)⟩
  have hlen : F.len ≤ F.cnt := F.len_le_cnt
  have hlen' : F'.len ≤ F'.cnt := F'.len_le_cnt
  unfold maxLen at hml hml'
  obtain ⟨m, hm⟩ : ∃ m, F.len = m := ⟨_, rfl⟩
  obtain ⟨m2, hm2⟩ : ∃ m, F'.len = m := ⟨_, rfl⟩
  have hfl : m ≤ 9223372036854775807 := by omega
  rw [hm, hm2]
  have HM := Lib.hid hm
  have HM2 := Lib.hid hm2
  clear ih hk hk' hlen hlen' hm hm2
  go_enter Tryz.func20, Tryz.ntmps20
  go_wp2
  all_goals try (go_ret; refine ⟨ret_bool (eqT_no ?_).symm, by first | exact below2 w _ _ | exact below3 w _ _ _⟩; rintro ⟨e1, e2, e3, e4⟩; dsimp only at e1 e2 e3 e4; first | contradiction | (rw [HM.out, HM2.out] at e3; omega) | (subst e2; contradiction) | (have e5 := e4 (by simp [counts, *]); simp_all))
  all_goals (
    have HBE : Hid (bare ⟨25, t, n, p, tk, tn, r, u⟩ = bare ⟨k2, t2, n, p2, tk2, tn2, r2, u2⟩) := bare_eq (by assumption) (string_of (by assumption)) (fun _ => rfl)
    obtain rfl : m = m2 := (by have : (m : Int) = m2 := by assumption
                               omega)
    have HL : Hid (F.len = F'.len) := HM.out.trans HM2.out.symm
    have ht := string_of (a := t) (b := t2) (by assumption)
    subst ht
    obtain rfl : 25 = k2 := by assumption
    try simp only [bne_self_eq_false]
    have hc01 : ∀ wr : World, wr.cell? ⟨w.heap.size, 4, none⟩ = some (.slice A m cap) → wr.cell? ⟨w.heap.size, 4, none⟩ = some (.slice A F.len cap) := fun _ h => by rw [h, HM.out]
    have hc02 : ∀ wr : World, wr.cell? ⟨w.heap.size + 1, 4, none⟩ = some (.slice A' m cap') → wr.cell? ⟨w.heap.size + 1, 4, none⟩ = some (.slice A' F'.len cap') := fun _ h => by rw [h, HM2.out]
    have HC01 := Lib.hid hc01
    have HC02 := Lib.hid hc02
    clear hc01 hc02
    go_loopw [5] (fun ix wr => ∃ (i : Nat) (R R' : Fo), ix = .int .i64 (i : Int) ∧ Two w wr A A' cap cap' F F' i R R' ∧ R.All EqP ∧ eqF F F' = eqF R R' ∧ R.cnt ≤ F.cnt ∧ R'.cnt ≤ F'.cnt) (fun ix _ => m - (intOf ix).toNat)
    case atStart => exact ⟨0, F, F', rfl, ⟨Rest.start (HT3.out _ _ _).1, Rest.start (HT3.out _ _ _).2, below3 w _ _ _, by simp, by apply HC01.out; exact al3_1 w _ _ _ _, by apply HC02.out; exact al3_2 w _ _ _ _⟩, HI.out, rfl, Nat.le_refl _, Nat.le_refl _⟩
    case round =>
      obtain ⟨i, R, R', rfl, hT, hP, hs, hb1, hb2⟩ := hrel
      have hz := hT.z
      have hc1 := hT.c1
      have hc2 := hT.c2
      rw [HM.out] at hc1
      rw [HM2.out] at hc2
      have HTT := Lib.hid hT
      have HS := Lib.hid hs
      cases R with
      | nil =>
        have hi := hT.r1.stop
        rw [HM.out] at hi
        have hR' : R' = .nil := Fo.len_zero (by have := hT.r2.1; have := HM2.out; omega)
        subst hi hR'
        clear hP hs hT
        go_wp2
        go_ret
        refine ⟨ret_bool ?_, HTT.out.b⟩
        have h1 : F.strip = F'.strip := by have := HS.out; simpa [eqF, Fo.strip] using this
        simp [eqT, h1, HBE.out]
      | cons hd kd r =>
        cases R' with
        | nil =>
          exfalso
          have := hT.r1.1
          have := hT.r2.1
          have := HL.out
          simp only [Fo.len] at *
          omega
        | cons hd' kd' r' =>
          obtain ⟨g, o, B, cb, rfl, ⟨a0, a1, a2, a3, a4, a5, a6, a7, a8⟩, _, hk1, hr1, hi1, hg1⟩ := hT.r1.next
          obtain ⟨g', o', B', cb', rfl, ⟨d0, d1, d2, d3, d4, d5, d6, d7, d8⟩, _, hk2, hr2, hi2, hg2⟩ := hT.r2.next
          rw [eqF_cons] at hs
          have HS2 := Lib.hid hs
          obtain ⟨p1, p2⟩ := hP
          simp only [Fo.cnt] at hb1 hb2
          have HC := Lib.hid (p1 hd' kd' B B' cb cb' wr.drew (hk1.drew (by omega)) (hk2.drew (by omega)) (by unfold maxLen; omega) (by unfold maxLen; omega))
          have HP2 := Lib.hid p2
          have HR1 := Lib.hid hr1
          have HR2 := Lib.hid hr2
          clear hT p1 p2 hk1 hk2 hr1 hr2 hs HS
          rw [HM.out] at hi1
          rw [HM2.out] at hi2
          have hj1 : (i : Int) < (m : Int) := by omega
          by_cases hv : eqT hd kd hd' kd' = true
          · have HV := Lib.hid hv
            rw [hv] at HC
            clear hv
            go_wp2_with fail
            go_still_tail 10, (by kernel_rfl)
            go_wp2_with fail
            refine HC.out.mono ?_
            rintro e w2 ⟨rfl, hb⟩
            have T2 := Lib.hid (HTT.out.next (below_drew hb) HR1.out HR2.out)
            clear hb hc1 hc2
            have hc1 := T2.out.c1
            have hc2 := T2.out.c2
            rw [HM.out] at hc1
            rw [HM2.out] at hc2
            go_wp2
            go_roundw
            case rel => exact ⟨i + 1, r, r', by go_num, T2.out, HP2.out, by rw [HS2.out, HV.out, Bool.true_and], by omega, by omega⟩
            case measure => simp [intOf]; omega
          · have hv0 : eqT hd kd hd' kd' = false := by simpa using hv
            have HV := Lib.hid hv0
            rw [hv0] at HC
            clear hv hv0
            go_wp2_with fail
            go_still_tail 10, (by kernel_rfl)
            go_wp2_with fail
            refine HC.out.mono ?_
            rintro e w2 ⟨rfl, hb⟩
            have T2 := Lib.hid (HTT.out.next (below_drew hb) HR1.out HR2.out)
            clear hb hc1 hc2
            go_wp2
            go_ret
            refine ⟨ret_bool ?_, T2.out.b⟩
            have h1 := HS2.out
            rw [HV.out, Bool.false_and] at h1
            unfold eqF at h1
            have h2 := of_decide_eq_false h1
            simp [eqT, h2])

set_option maxRecDepth 100000 in
set_option maxHeartbeats 2000000 in
theorem equal_24n (t : ByteArray) (n p tk : Int) (tn : ByteArray) (r u k2 : Int) (t2 : ByteArray) (n2 p2 tk2 : Int) (tn2 : ByteArray) (r2 u2 : Int) (F F' : Fo) (A A' : Option Addr) (cap cap' : Nat) (w : World) (hnn : ¬ n = n2) :
    Calls Tryz.prog 20 #[nv ⟨24, t, n, p, tk, tn, r, u⟩ A F.len cap, nv ⟨k2, t2, n2, p2, tk2, tn2, r2, u2⟩ A' F'.len cap'] w fun e w' => e = .returned (.bool (eqT ⟨24, t, n, p, tk, tn, r, u⟩ F ⟨k2, t2, n2, p2, tk2, tn2, r2, u2⟩ F')) ∧ Below w.heap.size w w' := by
  obtain ⟨m, hm⟩ : ∃ m, F.len = m := ⟨_, rfl⟩
  obtain ⟨m2, hm2⟩ : ∃ m, F'.len = m := ⟨_, rfl⟩
  rw [hm, hm2]
  have HM := Lib.hid hm
  have HM2 := Lib.hid hm2
  have hne : (n != n2) = true := by simpa using hnn
  have HN := Lib.hid hnn
  clear hm hm2 hnn
  go_enter Tryz.func20, Tryz.ntmps20
  go_wp2
  all_goals (go_ret; refine ⟨ret_bool (eqT_no ?_).symm, by first | exact below2 w _ _ | exact below3 w _ _ _⟩; rintro ⟨e1, e2, e3, e4⟩; dsimp only at e1 e2 e3 e4; first | contradiction | (rw [HM.out, HM2.out] at e3; omega) | (subst e2; contradiction) | exact HN.out (e4 rfl))

set_option maxRecDepth 100000 in
set_option maxHeartbeats 2000000 in
theorem equal_25n (t : ByteArray) (n p tk : Int) (tn : ByteArray) (r u k2 : Int) (t2 : ByteArray) (n2 p2 tk2 : Int) (tn2 : ByteArray) (r2 u2 : Int) (F F' : Fo) (A A' : Option Addr) (cap cap' : Nat) (w : World) (hnn : ¬ n = n2) :
    Calls Tryz.prog 20 #[nv ⟨25, t, n, p, tk, tn, r, u⟩ A F.len cap, nv ⟨k2, t2, n2, p2, tk2, tn2, r2, u2⟩ A' F'.len cap'] w fun e w' => e = .returned (.bool (eqT ⟨25, t, n, p, tk, tn, r, u⟩ F ⟨k2, t2, n2, p2, tk2, tn2, r2, u2⟩ F')) ∧ Below w.heap.size w w' := by
  obtain ⟨m, hm⟩ : ∃ m, F.len = m := ⟨_, rfl⟩
  obtain ⟨m2, hm2⟩ : ∃ m, F'.len = m := ⟨_, rfl⟩
  rw [hm, hm2]
  have HM := Lib.hid hm
  have HM2 := Lib.hid hm2
  have hne : (n != n2) = true := by simpa using hnn
  have HN := Lib.hid hnn
  clear hm hm2 hnn
  go_enter Tryz.func20, Tryz.ntmps20
  go_wp2
  all_goals (go_ret; refine ⟨ret_bool (eqT_no ?_).symm, by first | exact below2 w _ _ | exact below3 w _ _ _⟩; rintro ⟨e1, e2, e3, e4⟩; dsimp only at e1 e2 e3 e4; first | contradiction | (rw [HM.out, HM2.out] at e3; omega) | (subst e2; contradiction) | exact HN.out (e4 rfl))

set_option maxRecDepth 100000 in
set_option maxHeartbeats 2000000 in
theorem equal_k (k : Int) (t : ByteArray) (n p tk : Int) (tn : ByteArray) (r u k2 : Int) (t2 : ByteArray) (n2 p2 tk2 : Int) (tn2 : ByteArray) (r2 u2 : Int) (F F' : Fo) (ih : F.All EqP) (A A' : Option Addr) (cap cap' : Nat) (w : World) (hk : Kids (Lt w.heap.size) w A F) (hk' : Kids (Lt w.heap.size) w A' F') (hml : F.cnt ≤ maxLen) (hml' : F'.cnt ≤ maxLen) (hk24 : k ≠ 24) (hk25 : k ≠ 25) :
    Calls Tryz.prog 20 #[nv ⟨k, t, n, p, tk, tn, r, u⟩ A F.len cap, nv ⟨k2, t2, n2, p2, tk2, tn2, r2, u2⟩ A' F'.len cap'] w fun e w' => e = .returned (.bool (eqT ⟨k, t, n, p, tk, tn, r, u⟩ F ⟨k2, t2, n2, p2, tk2, tn2, r2, u2⟩ F')) ∧ Below w.heap.size w w' := by
  have HI := Lib.hid ih
  have HT : Hid (∀ o1 o2, Kids (Lt w.heap.size) ((w.alloc o1).alloc o2) A F ∧ Kids (Lt w.heap.size) ((w.alloc o1).alloc o2) A' F') := fun o1 o2 => ⟨hk.below (below2 w o1 o2) (Nat.le_refl _), hk'.below (below2 w o1 o2) (Nat.le_refl _)⟩
  have HT3 : Hid (∀ o1 o2 o3, Kids (Lt w.heap.size) (((w.alloc o1).alloc o2).alloc o3) A F ∧ Kids (Lt w.heap.size) (((w.alloc o1).alloc o2).alloc o3) A' F') := fun o1 o2 o3 => ⟨hk.below (below3 w o1 o2 o3) (Nat.le_refl _), hk'.below (below3 w o1 o2 o3) (Nat.le_refl _)⟩
  have hlen : F.len ≤ F.cnt := F.len_le_cnt
  have hlen' : F'.len ≤ F'.cnt := F'.len_le_cnt
  unfold maxLen at hml hml'
  obtain ⟨m, hm⟩ : ∃ m, F.len = m := ⟨_, rfl⟩
  obtain ⟨m2, hm2⟩ : ∃ m, F'.len = m := ⟨_, rfl⟩
  have hfl : m ≤ 9223372036854775807 := by omega
  rw [hm, hm2]
  have HM := Lib.hid hm
  have HM2 := Lib.hid hm2
  clear ih hk hk' hlen hlen' hm hm2
  go_enter Tryz.func20, Tryz.ntmps20
  go_wp2
  all_goals try (go_ret; refine ⟨ret_bool (eqT_no ?_).symm, by first | exact below2 w _ _ | exact below3 w _ _ _⟩; rintro ⟨e1, e2, e3, e4⟩; dsimp only at e1 e2 e3 e4; first | contradiction | (rw [HM.out, HM2.out] at e3; omega) | (subst e2; contradiction) | (have e5 := e4 (by simp [counts, *]); simp_all))
  all_goals (
    have HBE : Hid (bare ⟨k, t, n, p, tk, tn, r, u⟩ = bare ⟨k2, t2, n2, p2, tk2, tn2, r2, u2⟩) := bare_eq (by assumption) (string_of (by assumption)) (fun hc => absurd hc (by unfold counts; simp [hk24, hk25]))
    obtain rfl : m = m2 := (by have : (m : Int) = m2 := by assumption
                               omega)
    have HL : Hid (F.len = F'.len) := HM.out.trans HM2.out.symm
    have ht := string_of (a := t) (b := t2) (by assumption)
    subst ht
    obtain rfl : k = k2 := by assumption
    try simp only [bne_self_eq_false]
    have hc01 : ∀ wr : World, wr.cell? ⟨w.heap.size, 4, none⟩ = some (.slice A m cap) → wr.cell? ⟨w.heap.size, 4, none⟩ = some (.slice A F.len cap) := fun _ h => by rw [h, HM.out]
    have hc02 : ∀ wr : World, wr.cell? ⟨w.heap.size + 1, 4, none⟩ = some (.slice A' m cap') → wr.cell? ⟨w.heap.size + 1, 4, none⟩ = some (.slice A' F'.len cap') := fun _ h => by rw [h, HM2.out]
    have HC01 := Lib.hid hc01
    have HC02 := Lib.hid hc02
    clear hc01 hc02
    go_loopw [5] (fun ix wr => ∃ (i : Nat) (R R' : Fo), ix = .int .i64 (i : Int) ∧ Two w wr A A' cap cap' F F' i R R' ∧ R.All EqP ∧ eqF F F' = eqF R R' ∧ R.cnt ≤ F.cnt ∧ R'.cnt ≤ F'.cnt) (fun ix _ => m - (intOf ix).toNat)
    case atStart => exact ⟨0, F, F', rfl, ⟨Rest.start (HT3.out _ _ _).1, Rest.start (HT3.out _ _ _).2, below3 w _ _ _, by simp, by apply HC01.out; exact al3_1 w _ _ _ _, by apply HC02.out; exact al3_2 w _ _ _ _⟩, HI.out, rfl, Nat.le_refl _, Nat.le_refl _⟩
    case round =>
      obtain ⟨i, R, R', rfl, hT, hP, hs, hb1, hb2⟩ := hrel
      have hz := hT.z
      have hc1 := hT.c1
      have hc2 := hT.c2
      rw [HM.out] at hc1
      rw [HM2.out] at hc2
      have HTT := Lib.hid hT
      have HS := Lib.hid hs
      cases R with
      | nil =>
        have hi := hT.r1.stop
        rw [HM.out] at hi
        have hR' : R' = .nil := Fo.len_zero (by have := hT.r2.1; have := HM2.out; omega)
        subst hi hR'
        clear hP hs hT
        go_wp2
        go_ret
        refine ⟨ret_bool ?_, HTT.out.b⟩
        have h1 : F.strip = F'.strip := by have := HS.out; simpa [eqF, Fo.strip] using this
        simp [eqT, h1, HBE.out]
      | cons hd kd r =>
        cases R' with
        | nil =>
          exfalso
          have := hT.r1.1
          have := hT.r2.1
          have := HL.out
          simp only [Fo.len] at *
          omega
        | cons hd' kd' r' =>
          obtain ⟨g, o, B, cb, rfl, ⟨a0, a1, a2, a3, a4, a5, a6, a7, a8⟩, _, hk1, hr1, hi1, hg1⟩ := hT.r1.next
          obtain ⟨g', o', B', cb', rfl, ⟨d0, d1, d2, d3, d4, d5, d6, d7, d8⟩, _, hk2, hr2, hi2, hg2⟩ := hT.r2.next
          rw [eqF_cons] at hs
          have HS2 := Lib.hid hs
          obtain ⟨p1, p2⟩ := hP
          simp only [Fo.cnt] at hb1 hb2
          have HC := Lib.hid (p1 hd' kd' B B' cb cb' wr.drew (hk1.drew (by omega)) (hk2.drew (by omega)) (by unfold maxLen; omega) (by unfold maxLen; omega))
          have HP2 := Lib.hid p2
          have HR1 := Lib.hid hr1
          have HR2 := Lib.hid hr2
          clear hT p1 p2 hk1 hk2 hr1 hr2 hs HS
          rw [HM.out] at hi1
          rw [HM2.out] at hi2
          have hj1 : (i : Int) < (m : Int) := by omega
          by_cases hv : eqT hd kd hd' kd' = true
          · have HV := Lib.hid hv
            rw [hv] at HC
            clear hv
            go_wp2_with fail
            go_still_tail 10, (by kernel_rfl)
            go_wp2_with fail
            refine HC.out.mono ?_
            rintro e w2 ⟨rfl, hb⟩
            have T2 := Lib.hid (HTT.out.next (below_drew hb) HR1.out HR2.out)
            clear hb hc1 hc2
            have hc1 := T2.out.c1
            have hc2 := T2.out.c2
            rw [HM.out] at hc1
            rw [HM2.out] at hc2
            go_wp2
            go_roundw
            case rel => exact ⟨i + 1, r, r', by go_num, T2.out, HP2.out, by rw [HS2.out, HV.out, Bool.true_and], by omega, by omega⟩
            case measure => simp [intOf]; omega
          · have hv0 : eqT hd kd hd' kd' = false := by simpa using hv
            have HV := Lib.hid hv0
            rw [hv0] at HC
            clear hv hv0
            go_wp2_with fail
            go_still_tail 10, (by kernel_rfl)
            go_wp2_with fail
            refine HC.out.mono ?_
            rintro e w2 ⟨rfl, hb⟩
            have T2 := Lib.hid (HTT.out.next (below_drew hb) HR1.out HR2.out)
            clear hb hc1 hc2
            go_wp2
            go_ret
            refine ⟨ret_bool ?_, T2.out.b⟩
            have h1 := HS2.out
            rw [HV.out, Bool.false_and] at h1
            unfold eqF at h1
            have h2 := of_decide_eq_false h1
            simp [eqT, h2])

theorem equal_any (h : Hd) (F : Fo) : EqP h F := by
  refine Fo.ind (P := EqP) ?_ h F
  clear h F
  intro h F ih h' F' A A' cap cap' w hk hk' hml hml'
  obtain ⟨k, t, n, p, tk, tn, r, u⟩ := h
  obtain ⟨k2, t2, n2, p2, tk2, tn2, r2, u2⟩ := h'
  by_cases h24 : k = 24
  · subst h24
    by_cases hn : n = n2
    · subst hn
      exact equal_24 _ _ _ _ _ _ _ _ _ _ _ _ _ _ F F' ih A A' cap cap' w hk hk' hml hml'
    · exact equal_24n _ _ _ _ _ _ _ _ _ _ _ _ _ _ _ F F' A A' cap cap' w hn
  · by_cases h25 : k = 25
    · subst h25
      by_cases hn : n = n2
      · subst hn
        exact equal_25 _ _ _ _ _ _ _ _ _ _ _ _ _ _ F F' ih A A' cap cap' w hk hk' hml hml'
      · exact equal_25n _ _ _ _ _ _ _ _ _ _ _ _ _ _ _ F F' A A' cap cap' w hn
    · exact equal_k _ _ _ _ _ _ _ _ _ _ _ _ _ _ _ _ F F' ih A A' cap cap' w hk hk' hml hml' h24 h25
end Go.Proofs.YticbcnhbpbaocaaGreatDoor
