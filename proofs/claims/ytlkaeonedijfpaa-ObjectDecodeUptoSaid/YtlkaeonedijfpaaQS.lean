/-
  bytes.Equal, bytes.HasPrefix.
  The program's Decode.
  What the laws call: the small program, sameness of bytes, the example.
-/
import Derived.Test.YtlkaeonedijfpaaQP
import Derived.Deep.RegionHeld3
import Derived.Test.YtlkaeonedijfpaaQA
import Derived.Test.YtlkaeonedijfpaaBH
import Derived.Test.YtlkaeonedijfpaaYF
set_option linter.all false
namespace Go.Proofs.Ytlkaeonedijfpaa
open Go.RowKit C
theorem toList_inj' {a b : ByteArray} (h : a.toList = b.toList) : a = b := by
  rw [ByteArray.toList_eq, ByteArray.toList_eq] at h; exact ByteArray.ext (Array.toList_inj.1 h)
theorem str_inj {l m : Bs} (h : (⟨l.toArray⟩ : ByteArray) = ⟨m.toArray⟩) : l = m := by
  have := congrArg (fun s : ByteArray => s.data.toList) h
  simpa using this
set_option maxRecDepth 100000 in
set_option maxHeartbeats 1000000 in
theorem bequal_any (w : World) (A B : Option Addr) (l m : Bs) (ca cb : Nat) (h1 : Row 1 (ByAt w) A l) (h2 : Row 1 (ByAt w) B m) :
    Calls Try.prog 29 #[.slice A l.length ca, .slice B m.length cb] w fun e w' => e = .returned (.bool (decide (l = m))) ∧ w = w' := by
  have c1 := run_text w (cap := ca) (n := l.length) rfl h1
  have c2 := run_text w (cap := cb) (n := m.length) rfl h2
  obtain ⟨S, hS⟩ : ∃ S, (⟨l.toArray⟩ : ByteArray) = S := ⟨_, rfl⟩
  obtain ⟨T, hT⟩ : ∃ T, (⟨m.toArray⟩ : ByteArray) = T := ⟨_, rfl⟩
  by_cases e : l = m
  · subst e
    rw [hS] at c1 c2
    rw [decide_eq_true rfl]
    clear hS hT h1 h2
    go_enter Try.func29, Try.ntmps29
    go_wp2
    go_ret
    first | exact ⟨rfl, rfl⟩ | exact ⟨by simp, rfl⟩
  · have hne : ¬ S = T := fun h => e (str_inj (by rw [hS, hT]; exact h))
    have hq : ¬ S.toList = T.toList := fun h => hne (toList_inj' h)
    have hq2 : (S.toList == T.toList) = false := by simpa using hq
    rw [hS] at c1
    rw [hT] at c2
    rw [decide_eq_false e]
    clear hS hT h1 h2 e hne
    go_enter Try.func29, Try.ntmps29
    go_wp2
    go_ret
    first | exact ⟨rfl, rfl⟩ | exact ⟨by simp [hq, hq2], rfl⟩
theorem Row.drew' {w : World} {A : Option Addr} {l : Bs} (h : Row 1 (ByAt w) A l) : Row 1 (ByAt w.drew) A l := h.imp fun x g o q => ⟨q.lt, q.c0⟩
set_option maxRecDepth 100000 in
set_option maxHeartbeats 1000000 in
theorem bpref_any (w : World) (A B : Option Addr) (l m : Bs) (ca cb : Nat) (hca : l.length ≤ ca) (hm : ca ≤ maxLen) (h1 : Row 1 (ByAt w) A l) (h2 : Row 1 (ByAt w) B m) :
    Calls Try.prog 28 #[.slice A l.length ca, .slice B m.length cb] w fun e w' => e = .returned (.bool (decide (m.length ≤ l.length ∧ l.take m.length = m))) ∧ w = w' := by
  by_cases hl : m.length ≤ l.length
  · have hd : decide (m.length ≤ l.length) = true := by simpa using hl
    have hlt : (l.take m.length).length = m.length := by rw [List.length_take]; omega
    have H := bequal_any w A B (l.take m.length) m ca cb (brow_take h1 _) h2
    rw [hlt] at H
    have HH := Lib.hid H
    have hD : Hid (decide (m.length ≤ l.length ∧ l.take m.length = m) = decide (l.take m.length = m)) := Lib.hid (by simp [hl])
    obtain ⟨b, hb⟩ : ∃ b, decide (l.take m.length = m) = b := ⟨_, rfl⟩
    rw [hb] at HH hD
    have hml : (m.length : Int) ≤ (l.length : Int) := by omega
    unfold maxLen at hm
    have hca2 : (m.length : Int) ≤ (ca : Int) := by omega
    obtain ⟨ml, hml2⟩ : ∃ k, m.length = k := ⟨_, rfl⟩
    rw [hml2] at hd hml hca2 HH
    rw [hD.out, hml2]
    clear H hlt hb h1 h2 hl hml2
    go_enter Try.func28, Try.ntmps28
    go_wp2_with fail
    refine HH.out.mono ?_
    rintro e w1 ⟨rfl, rfl⟩
    go_wp2
    go_ret
    exact ⟨rfl, rfl⟩
  · have hd : decide (m.length ≤ l.length) = false := by simpa using hl
    have hD : Hid (decide (m.length ≤ l.length ∧ l.take m.length = m) = false) := Lib.hid (by simp [hl])
    rw [hD.out]
    clear h1 h2
    go_enter Try.func28, Try.ntmps28
    go_wp2
    go_ret
    exact ⟨rfl, rfl⟩
end Go.Proofs.Ytlkaeonedijfpaa

namespace Go.Proofs.Ytlkaeonedijfpaa
open Go.RowKit C
def AGives (w : World) (a : C.Ans) (e : Ending) (w' : World) : Prop :=
  match a with
  | .form => e = .returned (.tuple #[emptyV, .int .i64 8]) ∧ Below w.heap.size w w'
  | .sum => e = .returned (.tuple #[emptyV, .int .i64 9]) ∧ Below w.heap.size w w'
  | .arg => e = .returned (.tuple #[emptyV, .int .i64 1]) ∧ Below w.heap.size w w'
  | .ok p => ∃ A B D ca cb cd, e = .returned (.tuple #[pv p A B D ca cb cd, .int .i64 0]) ∧ PgAt w' p A B D ca cb cd ∧ Below w.heap.size w w'
theorem set4_bel {b : Nat} {w V : World} {v0 v1 v2 v3 : Value} (h : Below b w V) : Below b w ((((V.setCell ⟨b, 0, none⟩ v0).setCell ⟨b, 1, none⟩ v1).setCell ⟨b, 2, none⟩ v2).setCell ⟨b, 3, none⟩ v3) :=
  (((h.setCell (p := ⟨b, 0, none⟩) (Nat.le_refl _) _).setCell (p := ⟨b, 1, none⟩) (Nat.le_refl _) _).setCell (p := ⟨b, 2, none⟩) (Nat.le_refl _) _).setCell (p := ⟨b, 3, none⟩) (Nat.le_refl _) _
theorem res_cell_tmp {fn : Func} {p u : Tmp} (h : fn.results = #[.cell p 31, .tmp u]) (tmps : Array Value) (V : World) (pb : Nat) (a0 a1 a2 a3 : Value) (h2 : tmps.getD p undef = .pointer (some ⟨pb, 0, none⟩)) (hp : V.heap[pb]? = some (.cells #[a0, a1, a2, a3] 31 (0, 0))) :
    (results fn tmps).run Try.prog V = .ok (.tuple #[.agg #[a0, a1, a2, a3], tmps.getD u undef]) V := by
  rw [results_cell_tmp h]
  obtain ⟨⟨c0, c1, c2, c3⟩, _⟩ := cells4 hp
  have h2' : tmps[p]?.getD undef = .pointer (some ⟨pb, 0, none⟩) := by simpa using h2
  simp [h2', asAddr, go_sem, c0, c1, c2, c3]
theorem mark_row (w : World) : Row 1 (ByAt (w.alloc markO)) (some ⟨w.heap.size, 0, none⟩) C.mark := by
  refine .inr ⟨w.heap.size, 0, rfl, fun i hi => ⟨by simp, ?_⟩⟩
  have hb := heap_alloc_new w markO
  rw [Nat.zero_add, Nat.mul_one, cell_of_row _ _ _ _ _ _ hb]
  match i, hi with
  | 0, _ => rfl
  | 1, _ => rfl
  | 2, _ => rfl
  | 3, _ => rfl
  | n + 4, h => exact absurd h (by simp [C.mark])
set_option maxRecDepth 100000 in
set_option maxHeartbeats 4000000 in
theorem odec_short (w : World) (A : Option Addr) (l : Bs) (cap : Nat) (hc : l.length ≤ cap) (hm : cap ≤ maxLen) (hr : Row 1 (ByAt w) A l) (hs : l.length < 8) :
    Calls Try.prog 19 #[.slice A l.length cap] w fun e w' => e = .returned (.tuple #[emptyV, .int .i64 8]) ∧ Below w.heap.size w w' := by
  have h1 : (l.length : Int) - 4 < 4 := by omega
  have h2 : -9223372036854775808 ≤ (l.length : Int) - 4 := by omega
  have hl : (l.length : Int) < 8 := by omega
  clear hr
  go_enter Try.func19, Try.ntmps19
  go_wp2
  refine bodyPost_ret (res_cell_tmp rfl _ _ w.heap.size (.slice none 0 0) (.slice none 0 0) (.slice none 0 0) (.int .i64 0) rfl ?_) rfl ⟨rfl, ?_⟩
  · exact heap_alloc_new w _
  · exact below1 w _
set_option maxRecDepth 100000 in
set_option maxHeartbeats 4000000 in
theorem odec_long (w : World) (A : Option Addr) (l : Bs) (cap : Nat) (hc : l.length ≤ cap) (hm : cap ≤ maxLen) (hr : Row 1 (ByAt w) A l) (hs : 8 ≤ l.length) (hl0 : l.length ≤ 70368744177664) :
    Calls Try.prog 19 #[.slice A l.length cap] w (AGives w (ans l)) := by
  obtain ⟨e, he⟩ : ∃ e, l.length - 4 = e := ⟨_, rfl⟩
  have hel : e + 4 = l.length := by omega
  have he4 : 4 ≤ e := by omega
  have h1 : decide ((l.length : Int) - 4 < 4) = false := by simp; omega
  have h2 : (l.length : Int) - 4 = (e : Int) := by omega
  have h1b : decide ((e : Int) < 4) = false := by simp; omega
  have hcv := conv_mark (w.alloc zPg)
  have hb1 : Below w.heap.size w ((w.alloc zPg).alloc markO) := below2 _ _ _
  obtain ⟨g, o, hAe, hh⟩ := hr.at (by omega)
  have HPX := bpref_any ((w.alloc zPg).alloc markO) A (some ⟨w.heap.size + 1, 0, none⟩) l C.mark cap 4 hc hm (hr.imp fun x g o q => q.below hb1) (by have := mark_row (w.alloc zPg); simpa using this)
  have hmk : C.mark.length = 4 := rfl
  rw [hmk] at HPX
  have hpd : decide (4 ≤ l.length ∧ l.take 4 = C.mark) = decide (l.take 4 = C.mark) := by simp; omega
  rw [hpd] at HPX
  have hZ : ((w.alloc zPg).alloc markO).heap[w.heap.size]? = some zPg := heap2a w zPg markO
  by_cases hmark : l.take 4 = C.mark
  · rw [decide_eq_true hmark] at HPX
    have HP := Lib.hid HPX
    have HZ := Lib.hid hZ
    have HB1 := Lib.hid hb1
    have HR := Lib.hid hr
    have hcm := hm
    unfold maxLen at hcm
    subst hAe
    have HA : Hid (ans l = if ¬ l.drop e = sumE (sumF (l.take e)) then .sum else match bodyD ((l.take e).drop 4) with | none => .form | some p => if validB p = true then .ok p else .arg) := Lib.hid (by
      unfold ans; rw [if_neg (by rw [hmark]; simp; omega), he]; rfl)
    have HMK := Lib.hid hmark
    clear HPX hpd hmark hr hh hb1 hZ hmk
    rw [World.size_alloc] at hcv
    go_enter Try.func19, Try.ntmps19
    go_wp2_with fail
    refine HP.out.mono ?_
    rintro e1 w1 ⟨rfl, rfl⟩
    have hle : (l.take e).length = e := by rw [List.length_take]; omega
    have hld : (l.drop e).length = 4 := by rw [List.length_drop]; omega
    obtain ⟨U, hU⟩ : ∃ U, ((w.alloc zPg).alloc markO).drew = U := ⟨_, rfl⟩
    have hus : U.heap.size = w.heap.size + 1 + 1 := by rw [← hU]; simp
    have hbU : Below w.heap.size w U := by rw [← hU]; exact HB1.out.drew
    have hZU : U.heap[w.heap.size]? = some zPg := by rw [← hU]; exact HZ.out
    have hRU : ∀ V, Below U.heap.size U V → Row 1 (ByAt V) (some ⟨g, o, none⟩) l := fun V hV => HR.out.imp fun x g o q => q.below (hbU.trans (hV.mono (by omega)))
    have hSt0 : Below U.heap.size U ((w.alloc zPg).alloc markO).drew := by rw [hU]; exact Below.refl _ _
    have HSM : Hid (∀ V, Below U.heap.size U V → Calls Try.prog 12 #[.slice (some ⟨g, o, none⟩) e cap] V fun e1 w' => e1 = .returned (.int .u32 ((sumF (l.take e)).toNat : Int)) ∧ V = w') := Lib.hid fun V hV => by
      have := osum_any (some ⟨g, o, none⟩) (l.take e) cap V (by omega) (brow_take (hRU V hV) e)
      rw [hle] at this
      exact this
    obtain ⟨s, hs'⟩ : ∃ s, sumF (l.take e) = s := ⟨_, rfl⟩
    rw [hs'] at HSM HA
    obtain ⟨m, hm'⟩ : ∃ m, sumE s = m := ⟨_, rfl⟩
    have hml : m.length = 4 := by rw [← hm']; rfl
    have HAS : Hid (∀ V, Below U.heap.size U V → Calls Try.prog 26 #[.slice none 0 0, .int .u32 (s.toNat : Int)] V fun e1 w' => ∃ A2 c2, e1 = .returned (.slice A2 4 c2) ∧ Row 1 (ByAt w') A2 m ∧ Below U.heap.size U w') := Lib.hid fun V hV => by
      refine (oasum_any U.heap.size (.slice none 0 0) [] s V (OwnB.nil _ _) hV.size (by simp)).mono ?_
      rintro e1 w' ⟨v', rfl, ho, hg⟩
      rw [List.nil_append, hm'] at ho
      obtain ⟨A2, c2, rfl, hc2, hm2, hr2⟩ := ho.row
      rw [hml]
      exact ⟨A2, c2, rfl, hr2, hV.trans (hg.below hV.size (by intro k hk; cases hk))⟩
    obtain ⟨bq, hbq⟩ : ∃ bq, decide (l.drop e = m) = bq := ⟨_, rfl⟩
    have HEQ : Hid (∀ V A2 c2, Below U.heap.size U V → Row 1 (ByAt V) A2 m → Calls Try.prog 29 #[.slice (some ⟨g, o + e, none⟩) 4 (cap - e), .slice A2 4 c2] V fun e1 w' => e1 = .returned (.bool bq) ∧ V = w') := Lib.hid fun V A2 c2 hV hA2 => by
      have := bequal_any V (some ⟨g, o + e, none⟩) A2 (l.drop e) m (cap - e) c2 (brow_drop (hRU V hV) e rfl) hA2
      rw [hld, hml, hbq] at this
      exact this
    have hi1 : (e : Int) ≤ (l.length : Int) := by omega
    have hi2 : (l.length : Int) ≤ (cap : Int) := by omega
    have hi3 : (e : Int) ≤ (cap : Int) := by omega
    have hi4 : (l.length : Int) - (e : Int) = 4 := by omega
    have hi5 : l.length - e = 4 := by omega
    have HBQ := Lib.hid hbq
    have HSZ : Hid (m = sumE s) := Lib.hid hm'.symm
    have HS1 := Lib.hid hs'
    clear hbq hm' hs' hle hld hml
    have HBU := Lib.hid hbU
    have HZU := Lib.hid hZU
    have HRU := Lib.hid hRU
    have HUS := Lib.hid hus
    clear hbU hZU hRU hus hU
    have hi0 : (0 : Int) ≤ (e : Int) := by omega
    have hi6 : (0 : Int) ≤ (l.length : Int) := by omega
    have hi7 : ¬ cap = e := by omega
    have hi8 : ¬ cap = 0 := by omega
    have hi9 : ¬ e = 0 := by omega
    have hj1 : e ≤ l.length := by omega
    have hj2 : e ≤ cap := by omega
    have hj3 : l.length ≤ cap := by omega
    have hq1 : ∀ V, (Instr.sliceAt 22 (.slice (some ⟨g, o, none⟩) l.length cap) (some (.int .i64 (e : Int))) none none).run Try.prog V = .ok (.slice (some ⟨g, o + e, none⟩) 4 (cap - e)) V := by
      intro V
      simp [go_sem, hi0, hi1, hi2, hi3, hi4, hi5, hi7, hi8, hi9, hj1, hj2, hj3, Addr.add]
    go_wp2_with fail
    go_region_held3 (fun w' => Below U.heap.size U w')
        (first
          | assumption)
        (first
          | (go_at_call 29; (with_reducible refine (HEQ.out _ _ _ hb5 hr5).mono ?_); rintro e1 w6 ⟨rfl, rfl⟩)
          | (go_at_call 26; (with_reducible refine (HAS.out _ ‹_›).mono ?_); rintro e1 w5 ⟨A2, c2, rfl, hr5, hb5⟩)
          | (go_at_call 12; (with_reducible refine (HSM.out _ ‹_›).mono ?_); rintro e1 w4 ⟨rfl, rfl⟩))
    have HB5 := Lib.hid hb5
    have hus := HUS.out
    have hs5 := hb5.size
    have hbx : w5.heap[w.heap.size]? = some zPg := (hb5.block w.heap.size (by omega)).trans HZU.out
    have HBX := Lib.hid hbx
    have HBW : Hid (Below w.heap.size w w5) := Lib.hid (HBU.out.trans (hb5.mono (by omega)))
    clear hb5 hr5 hbx
    by_cases hbt : bq = true
    · subst hbt
      have HQ : Hid (ans l = match bodyD ((l.take e).drop 4) with | none => .form | some p => if validB p = true then .ok p else .arg) := Lib.hid (by rw [HA.out, if_neg]; rw [← HSZ.out]; exact not_not_intro (of_decide_eq_true HBQ.out))
      obtain ⟨B, hBd⟩ : ∃ B, (l.take e).drop 4 = B := ⟨_, rfl⟩
      have hBl : B.length = e - 4 := by rw [← hBd, List.length_drop, List.length_take]; omega
      have hBr : Row 1 (ByAt w5) (some ⟨g, o + 4, none⟩) B := by rw [← hBd]; exact brow_drop (brow_take (HRU.out w5 HB5.out) e) 4 rfl
      rw [hBd] at HQ
      have HBR := Lib.hid hBr
      have hc4 : B.length ≤ cap - 4 := by omega
      have hm4 : cap - 4 ≤ maxLen := by unfold maxLen; omega
      have hq2 : ∀ V, (Instr.sliceAt 22 (.slice (some ⟨g, o, none⟩) l.length cap) (some (.int .i64 4)) (some (.int .i64 (e : Int))) none).run Try.prog V = .ok (.slice (some ⟨g, o + 4, none⟩) (e - 4) (cap - 4)) V := by
        intro V
        have a1 : (4 : Int) ≤ (e : Int) := by omega
        have a2 : ¬ cap = 4 := by omega
        simp [go_sem, hi0, hi1, hi2, hi3, hi4, hi5, hi7, hi8, hi9, hj1, hj2, hj3, a1, a2, he4, Addr.add]
      rcases hpd : pgD B with _ | ⟨p, r⟩
      · have HN : Hid (ans l = .form) := Lib.hid (by rw [HQ.out]; unfold bodyD; rw [hpd])
        have H8 := Lib.hid (read_none w5 (some ⟨g, o + 4, none⟩) B (cap - 4) hc4 hm4 HBR.out hpd)
        rw [hBl] at H8
        clear hBr hBd hBl hc4 hpd
        go_wp2_with fail
        refine H8.out.mono ?_
        rintro e1 w6 ⟨rfl, hb6⟩
        have hs6 := hb6.size
        have x6 := heap_alloc_new w6 zPg
        have y6 : (w6.alloc zPg).heap[w.heap.size]? = some zPg := ((hb6.alloc hb6.size zPg).block w.heap.size (by omega)).trans HBX.out
        have HB6 := Lib.hid (HBW.out.trans ((hb6.alloc hb6.size zPg).mono (by omega)))
        have X6 := Lib.hid x6
        have Y6 := Lib.hid y6
        clear x6 y6 hb6
        obtain ⟨⟨d0, d1, d2, d3⟩, _⟩ := cells4 X6.out
        obtain ⟨⟨c0, c1, c2, c3⟩, z0, z1, z2, z3⟩ := cells4 Y6.out
        go_wp2
        rw [HN.out]
        refine bodyPost_ret (res_cell_tmp rfl _ _ w.heap.size (.slice none 0 0) (.slice none 0 0) (.slice none 0 0) (.int .i64 0) rfl (blk4 Y6.out)) rfl ⟨rfl, set4_bel HB6.out⟩
      · by_cases hr0 : r = []
        · subst hr0
          have H9 := Lib.hid (read_some w5 (some ⟨g, o + 4, none⟩) B (cap - 4) p hc4 hm4 HBR.out hpd)
          have HN : Hid (ans l = if validB p = true then .ok p else .arg) := Lib.hid (by rw [HQ.out]; unfold bodyD; rw [hpd])
          rw [hBl] at H9
          clear hBr hBd hBl hc4 hpd
          go_wp2_with fail
          refine H9.out.mono ?_
          rintro e1 w6 ⟨A6, B6, D6, ca6, cb6, cd6, rfl, hS6, hb6⟩
          have hb7 : Below w5.heap.size w5 (w6.alloc (.cells (pb (cutP p) A6 B6 D6 ca6 cb6 cd6) 31 (0, 0))) := hb6.alloc hb6.size _
          have h6n := heap_alloc_new w6 (.cells (pb (cutP p) A6 B6 D6 ca6 cb6 cd6) 31 (0, 0))
          have hs6 := hb6.size
          have hst7 : Stab w5.heap.size w6 (w6.alloc (.cells (pb (cutP p) A6 B6 D6 ca6 cb6 cd6) 31 (0, 0))) := ⟨by simp, fun g h1 h2 => heap_alloc_old _ _ h2⟩
          have HV := Lib.hid (valid_any (cutP p) A6 B6 D6 ca6 cb6 cd6 _ (hS6 _ hst7))
          rw [C.cut_same] at HV
          have HS6 := Lib.hid hS6
          have HB7 := Lib.hid hb7
          have HW7 : Hid ((w6.alloc (.cells (pb (cutP p) A6 B6 D6 ca6 cb6 cd6) 31 (0, 0))).heap[w.heap.size]? = some zPg) := Lib.hid ((hb7.block w.heap.size (by omega)).trans HBX.out)
          have H6N := Lib.hid h6n
          obtain ⟨⟨d0, d1, d2, d3⟩, _⟩ := cells4 H6N.out
          obtain ⟨⟨c0, c1, c2, c3⟩, z0, z1, z2, z3⟩ := cells4 HW7.out
          clear hS6 hb6 hb7 h6n hst7
          by_cases hv : validB p = true
          · rw [hv] at HV
            have hcut := (C.cut_valid p).2 hv
            have HN2 : Hid (ans l = .ok p) := Lib.hid (by rw [HN.out, if_pos hv])
            have HC := Lib.hid hcut
            clear hcut hv
            go_wp2_with fail
            refine HV.out.mono ?_
            rintro e1 w8 ⟨rfl, hb8⟩
            have hb8s := hb8.size
            simp only [World.size_alloc] at hb8s
            have x8 := (hb8.block w6.heap.size (by simp)).trans H6N.out
            have y8 := (hb8.block w.heap.size (by simp; omega)).trans HW7.out
            have X8 := Lib.hid x8
            have Y8 := Lib.hid y8
            have HB8 := Lib.hid hb8
            clear c0 c1 c2 c3 z0 z1 z2 z3 d0 d1 d2 d3 hb8 x8 y8
            obtain ⟨⟨d0, d1, d2, d3⟩, _⟩ := cells4 X8.out
            obtain ⟨⟨c0, c1, c2, c3⟩, z0, z1, z2, z3⟩ := cells4 Y8.out
            go_wp2
            rw [HN2.out]
            have hst : Stab w5.heap.size w6 ((((w8.setCell ⟨w.heap.size, 0, none⟩ (.slice A6 (cutP p).funcs.length ca6)).setCell ⟨w.heap.size, 1, none⟩ (.slice B6 (cutP p).globals.length cb6)).setCell ⟨w.heap.size, 2, none⟩ (.slice D6 (cutP p).layouts.length cd6)).setCell ⟨w.heap.size, 3, none⟩ (.int .i64 (cutP p).main)) := ⟨by simp; omega, fun g h1 h2 => by
              have n1 : g ≠ w.heap.size := by omega
              rw [heap_setCell_other _ _ _ _ n1, heap_setCell_other _ _ _ _ n1, heap_setCell_other _ _ _ _ n1, heap_setCell_other _ _ _ _ n1, HB8.out.block g (by simp; omega), heap_alloc_old _ _ h2]⟩
            refine bodyPost_ret (res_cell_tmp rfl _ _ w.heap.size _ _ _ _ rfl (blk4 Y8.out)) rfl ⟨A6, B6, D6, ca6, cb6, cd6, ?_, ?_, set4_bel (HBW.out.trans ((HB7.out.mono (by omega)).trans (HB8.out.mono (by simp; omega))))⟩
            · rw [HC.out]; rfl
            · have := HS6.out _ hst
              rw [HC.out] at this ⊢
              exact this
          · have hv2 : validB p = false := by simpa using hv
            rw [hv2] at HV
            have HN2 : Hid (ans l = .arg) := Lib.hid (by rw [HN.out, if_neg hv])
            clear hv hv2
            go_wp2_with fail
            refine HV.out.mono ?_
            rintro e1 w8 ⟨rfl, hb8⟩
            have hb8s := hb8.size
            simp only [World.size_alloc] at hb8s
            have y8 := (hb8.block w.heap.size (by simp; omega)).trans HW7.out
            have Y8 := Lib.hid y8
            have HB8 := Lib.hid hb8
            clear c0 c1 c2 c3 z0 z1 z2 z3 d0 d1 d2 d3 hb8 y8
            obtain ⟨⟨c0, c1, c2, c3⟩, z0, z1, z2, z3⟩ := cells4 Y8.out
            go_wp2
            rw [HN2.out]
            refine bodyPost_ret (res_cell_tmp rfl _ _ w.heap.size (.slice none 0 0) (.slice none 0 0) (.slice none 0 0) (.int .i64 0) rfl (blk4 Y8.out)) rfl ⟨rfl, set4_bel (HBW.out.trans ((HB7.out.mono (by omega)).trans (HB8.out.mono (by simp; omega))))⟩
        · have hrl : 0 < r.length := by cases r with
            | nil => exact absurd rfl hr0
            | cons a b => simp
          have HN : Hid (ans l = .form) := Lib.hid (by
            rw [HQ.out]; unfold bodyD; rw [hpd]
            cases r with
            | nil => exact absurd rfl hr0
            | cons a b => rfl)
          have H8 := Lib.hid (read_more w5 (some ⟨g, o + 4, none⟩) B r (cap - 4) p hc4 hm4 HBR.out hpd hrl)
          rw [hBl] at H8
          clear hBr hBd hBl hc4 hpd
          go_wp2_with fail
          refine H8.out.mono ?_
          rintro e1 w6 ⟨rfl, hb6⟩
          have hs6 := hb6.size
          have x6 := heap_alloc_new w6 zPg
          have y6 : (w6.alloc zPg).heap[w.heap.size]? = some zPg := ((hb6.alloc hb6.size zPg).block w.heap.size (by omega)).trans HBX.out
          have HB6 := Lib.hid (HBW.out.trans ((hb6.alloc hb6.size zPg).mono (by omega)))
          have X6 := Lib.hid x6
          have Y6 := Lib.hid y6
          clear x6 y6 hb6
          obtain ⟨⟨d0, d1, d2, d3⟩, _⟩ := cells4 X6.out
          obtain ⟨⟨c0, c1, c2, c3⟩, z0, z1, z2, z3⟩ := cells4 Y6.out
          go_wp2
          rw [HN.out]
          refine bodyPost_ret (res_cell_tmp rfl _ _ w.heap.size (.slice none 0 0) (.slice none 0 0) (.slice none 0 0) (.int .i64 0) rfl (blk4 Y6.out)) rfl ⟨rfl, set4_bel HB6.out⟩
    · obtain rfl : bq = false := by simpa using hbt
      have HN : Hid (ans l = .sum) := Lib.hid (by rw [HA.out, if_pos]; rw [← HSZ.out]; exact of_decide_eq_false HBQ.out)
      obtain ⟨⟨c0, c1, c2, c3⟩, z0, z1, z2, z3⟩ := cells4 HBX.out
      go_wp2
      rw [HN.out]
      refine bodyPost_ret (res_cell_tmp rfl _ _ w.heap.size (.slice none 0 0) (.slice none 0 0) (.slice none 0 0) (.int .i64 0) rfl (blk4 HBX.out)) rfl ⟨rfl, set4_bel HBW.out⟩
  · rw [decide_eq_false hmark] at HPX
    have HP := Lib.hid HPX
    have HZ := Lib.hid hZ
    have HB1 := Lib.hid hb1
    have hcm := hm
    unfold maxLen at hcm
    subst hAe
    have HN : Hid (ans l = .form) := Lib.hid (by unfold ans; rw [if_pos (.inr hmark)])
    clear HPX hpd hmark hr hh hb1 hZ hmk
    rw [World.size_alloc] at hcv
    go_enter Try.func19, Try.ntmps19
    go_wp2_with fail
    refine HP.out.mono ?_
    rintro e1 w1 ⟨rfl, rfl⟩
    clear HP hcv
    generalize (w.alloc zPg).alloc markO = W1 at HZ HB1 ⊢
    obtain ⟨⟨c0, c1, c2, c3⟩, z0, z1, z2, z3⟩ := cells4 HZ.out
    go_wp2
    rw [HN.out]
    refine bodyPost_ret (res_cell_tmp rfl _ _ w.heap.size (.slice none 0 0) (.slice none 0 0) (.slice none 0 0) (.int .i64 0) rfl (blk4 HZ.out)) rfl ⟨rfl, set4_bel HB1.out⟩
theorem odec_any (w : World) (A : Option Addr) (l : Bs) (cap : Nat) (hc : l.length ≤ cap) (hm : cap ≤ maxLen) (hr : Row 1 (ByAt w) A l) (hl0 : l.length ≤ 70368744177664) :
    Calls Try.prog 19 #[.slice A l.length cap] w (AGives w (ans l)) := by
  by_cases hs : l.length < 8
  · refine (odec_short w A l cap hc hm hr hs).mono fun e w' h => ?_
    have : ans l = .form := by unfold ans; rw [if_pos (.inl hs)]
    rw [this]; exact h
  · exact odec_long w A l cap hc hm hr (by omega) hl0
end Go.Proofs.Ytlkaeonedijfpaa

namespace Go.Proofs.Ytlkaeonedijfpaa
open Go.RowKit C
set_option maxRecDepth 100000 in
set_option maxHeartbeats 1000000 in
theorem same_any (w : World) (A B : Option Addr) (l m : Bs) (ca cb : Nat) (h1 : Row 1 (ByAt w) A l) (h2 : Row 1 (ByAt w) B m) :
    Calls Try.prog 16 #[.slice A l.length ca, .slice B m.length cb] w fun e w' => e = .returned (.bool (decide (l = m))) ∧ w = w' := by
  have c1 := run_text w (cap := ca) (n := l.length) rfl h1
  have c2 := run_text w (cap := cb) (n := m.length) rfl h2
  obtain ⟨S, hS⟩ : ∃ S, (⟨l.toArray⟩ : ByteArray) = S := ⟨_, rfl⟩
  obtain ⟨T, hT⟩ : ∃ T, (⟨m.toArray⟩ : ByteArray) = T := ⟨_, rfl⟩
  by_cases e : l = m
  · subst e
    rw [hS] at c1 c2
    rw [decide_eq_true rfl]
    clear hS hT h1 h2
    go_enter Try.func16, Try.ntmps16
    go_wp2
    go_ret
    first | exact ⟨rfl, rfl⟩ | exact ⟨by simp, rfl⟩
  · have hne : ¬ S = T := fun h => e (str_inj (by rw [hS, hT]; exact h))
    have hq : ¬ S.toList = T.toList := fun h => hne (toList_inj' h)
    have hq2 : (S.toList == T.toList) = false := by simpa using hq
    rw [hS] at c1
    rw [hT] at c2
    rw [decide_eq_false e]
    clear hS hT h1 h2 e hne
    go_enter Try.func16, Try.ntmps16
    go_wp2
    go_ret
    first | exact ⟨rfl, rfl⟩ | exact ⟨by simp [hq, hq2], rfl⟩
def tinF : Fc := ⟨⟨#[109, 97, 105, 110]⟩, 0, 0, [⟨30, -1, 0, 0, 0⟩]⟩
def tinP : Pg := ⟨[tinF], [], [], 0⟩
def noP : Pg := ⟨[], [], [], 0⟩
theorem tin_valid : validB tinP = true := by decide
theorem noP_valid : validB noP = false := by decide
abbrev tO1 : Obj := .cells #[.int .i64 30, .int .i64 (-1), .int .i64 0, .int .i64 0, .int .i64 0] 57
abbrev tO2 (n : Nat) : Obj := .cells #[.string ⟨#[109, 97, 105, 110]⟩, .int .i64 0, .int .i64 0, .slice (some ⟨n, 0, none⟩) 1 1] 55
theorem i64s' {v : Int} (h : -100 ≤ v ∧ v ≤ 100) : i64 v := by unfold i64; omega
theorem below3 (w : World) (o o2 o3 : Obj) : Below w.heap.size w (((w.alloc o).alloc o2).alloc o3) := (below2 w o o2).alloc (by simp; omega) o3
theorem tin_at {W : World} {n m : Nat} (h1 : W.heap[n]? = some tO1) (h2 : W.heap[m]? = some (tO2 n)) : PgAt W tinP (some ⟨m, 0, none⟩) none none 1 0 0 := by
  have l1 := (Array.getElem?_eq_some_iff.1 h1).1
  have l2 := (Array.getElem?_eq_some_iff.1 h2).1
  have hrow : Row 5 (InAt W) (some ⟨n, 0, none⟩) tinF.code := .inr ⟨n, 0, rfl, fun i hi => by
    match i, hi with
    | 0, _ => exact ⟨by omega, by simp [World.cell?, h1]; rfl, by simp [World.cell?, h1]; rfl, by simp [World.cell?, h1]; rfl, by simp [World.cell?, h1]; rfl, by simp [World.cell?, h1]; rfl, i64s' (by simp [tinF]), i64s' (by simp [tinF]), i64s' (by simp [tinF]), i64s' (by simp [tinF]), i64s' (by simp [tinF])⟩
    | n + 1, h => exact absurd h (by simp [tinF])⟩
  refine ⟨.inr ⟨m, 0, rfl, fun i hi => ?_⟩, .inl rfl, .inl rfl, i64s' (by decide), ⟨Nat.le_refl _, by decide⟩, ⟨Nat.le_refl _, by decide⟩, ⟨Nat.le_refl _, by decide⟩⟩
  have hi0 : i = 0 := by simp [tinP] at hi; exact hi
  subst hi0
  exact ⟨by omega, by simp [World.cell?, h2]; rfl, by simp [World.cell?, h2]; rfl, by simp [World.cell?, h2]; rfl, ⟨some ⟨n, 0, none⟩, 1, by simp [World.cell?, h2]; rfl, Nat.le_refl _, by simp [tinP, tinF, maxLen], hrow⟩, by simp [tinP, tinF, maxLen, ByteArray.size], i64s' (by simp [tinP, tinF]), i64s' (by simp [tinP, tinF])⟩
theorem no_at (W : World) : PgAt W noP none none none 0 0 0 := ⟨.inl rfl, .inl rfl, .inl rfl, i64s' (by decide), ⟨Nat.le_refl _, by decide⟩, ⟨Nat.le_refl _, by decide⟩, ⟨Nat.le_refl _, by decide⟩⟩
set_option maxRecDepth 100000 in
set_option maxHeartbeats 1000000 in
theorem tiny_any (w : World) : Calls Try.prog 23 #[] w fun e w' => ∃ A, e = .returned (pv tinP A none none 1 0 0) ∧ PgAt w' tinP A none none 1 0 0 ∧ Below w.heap.size w w' := by
  go_enter Try.func23, Try.ntmps23
  go_wp2
  have hz : (((w.alloc (.cells #[.slice (some ⟨w.heap.size + 1 + 1, 0, none⟩) 1 1, .slice none 0 0, .slice none 0 0, .int .i64 0] 31)).alloc tO1).alloc (tO2 (w.heap.size + 1))).heap[w.heap.size]? = some (.cells #[.slice (some ⟨w.heap.size + 1 + 1, 0, none⟩) 1 1, .slice none 0 0, .slice none 0 0, .int .i64 0] 31) :=
    (heap_alloc_old _ _ (by simp; omega)).trans (heap2a w _ _)
  have h1 : (((w.alloc (.cells #[.slice (some ⟨w.heap.size + 1 + 1, 0, none⟩) 1 1, .slice none 0 0, .slice none 0 0, .int .i64 0] 31)).alloc tO1).alloc (tO2 (w.heap.size + 1))).heap[w.heap.size + 1]? = some tO1 :=
    (heap_alloc_old _ _ (by simp)).trans (heapB w _ _)
  have h2 : (((w.alloc (.cells #[.slice (some ⟨w.heap.size + 1 + 1, 0, none⟩) 1 1, .slice none 0 0, .slice none 0 0, .int .i64 0] 31)).alloc tO1).alloc (tO2 (w.heap.size + 1))).heap[w.heap.size + 1 + 1]? = some (tO2 (w.heap.size + 1)) := by
    have := heap_alloc_new ((w.alloc (.cells #[.slice (some ⟨w.heap.size + 1 + 1, 0, none⟩) 1 1, .slice none 0 0, .slice none 0 0, .int .i64 0] 31)).alloc tO1) (tO2 (w.heap.size + 1))
    rw [World.size_alloc, World.size_alloc] at this; exact this
  have hb := below3 w (.cells #[.slice (some ⟨w.heap.size + 1 + 1, 0, none⟩) 1 1, .slice none 0 0, .slice none 0 0, .int .i64 0] 31) tO1 (tO2 (w.heap.size + 1))
  generalize (((w.alloc (.cells #[.slice (some ⟨w.heap.size + 1 + 1, 0, none⟩) 1 1, .slice none 0 0, .slice none 0 0, .int .i64 0] 31)).alloc tO1).alloc (tO2 (w.heap.size + 1))) = W at hz h1 h2 hb ⊢
  have HZ := Lib.hid hz
  have hP := Lib.hid (tin_at h1 h2)
  have HB := Lib.hid hb
  clear hz h1 h2 hb
  refine bodyPost_ret (results_cell_row rfl _ _ w.heap.size 31 #[.slice (some ⟨w.heap.size + 1 + 1, 0, none⟩) 1 1, .slice none 0 0, .slice none 0 0, .int .i64 0] (0, 0) _ rfl HZ.out Try.underlying31 rfl infoPg4) rfl ?_
  exact ⟨_, rfl, hP.out, HB.out⟩
theorem tin_bk : Bk tinP := ⟨by show (4 : Nat) + 1 + 1 + 0 + 0 + 0 ≤ 1048576; omega, by show (0 : Nat) ≤ 1048576; omega⟩
theorem form_len_le {p : Pg} (hip : IP p) (hb : Bk p) : (formE p).length ≤ 200000008 := by
  have h := pgE_len hip hb
  have h1 : (formE p).length = (headF p).length + 4 := by unfold formE; rw [List.length_append]; rfl
  have h2 : (headF p).length = 4 + (pgE p).length := by unfold headF; rw [List.length_append]; rfl
  omega
set_option maxRecDepth 100000 in
set_option maxHeartbeats 4000000 in
theorem awake_any (w : World) : Calls Try.prog 11 #[] w fun e w' => e = .returned (.bool true) ∧ Below w.heap.size w w' := by
  have HT : Hid (∀ V, Calls Try.prog 23 #[] V fun e w' => ∃ A, e = .returned (pv tinP A none none 1 0 0) ∧ PgAt w' tinP A none none 1 0 0 ∧ Below V.heap.size V w') := Lib.hid tiny_any
  go_enter Try.func11, Try.ntmps11
  go_wp2_with fail
  refine (HT.out w).mono ?_
  rintro e w1 ⟨A1, rfl, hp1, hb1⟩
  have H1 := Lib.hid (oenc_yes tinP A1 none none 1 0 0 w1 hp1 tin_bk tin_valid)
  have hip : IP tinP := pg_ip hp1 tin_bk
  have hL1 := form_len_le hip tin_bk
  have hL2 : ans (formE tinP) = .ok tinP := by rw [ans_form hip, if_pos tin_valid]
  obtain ⟨L, hL⟩ : ∃ L, formE tinP = L := ⟨_, rfl⟩
  rw [hL] at H1 hL1 hL2
  have HB1 := Lib.hid hb1
  clear hp1 hb1 hip hL
  go_wp2_with fail
  refine H1.out.mono ?_
  rintro e w2 ⟨v2, rfl, ho2, hb2⟩
  obtain ⟨A2, c2, rfl, hc2, hm2, hr2⟩ := ho2.row
  have H2 := odec_any w2 A2 L c2 hc2 hm2 hr2 (by omega)
  rw [hL2] at H2
  have HH2 := Lib.hid H2
  have HB2 := Lib.hid (HB1.out.trans (hb2.mono HB1.out.size))
  clear H1 H2 hb2 ho2 hr2 hc2 hm2 hL1 hL2
  go_wp2_with fail
  refine HH2.out.mono ?_
  rintro e w3 ⟨A3, B3, D3, ca3, cb3, cd3, rfl, hp3, hb3⟩
  have HB3 := Lib.hid (HB2.out.trans (hb3.mono HB2.out.size))
  have HP3 := Lib.hid hp3
  clear HH2 hp3 hb3
  have H4 : Hid (∀ V, Calls Try.prog 14 #[.agg #[.slice none 0 0, .slice none 0 0, .slice none 0 0, .int .i64 0]] V (RetB V [] 1)) := Lib.hid fun V => oenc_no noP none none none 0 0 0 V (no_at V) noP_valid
  have HO := Lib.hid (heap_alloc_new w3 (.cells (pb tinP A3 B3 D3 ca3 cb3 cd3) 31 (0, 0)))
  have HBo := Lib.hid (below1 w3 (.cells (pb tinP A3 B3 D3 ca3 cb3 cd3) 31 (0, 0)))
  go_wp2_with fail
  refine (H4.out _).mono ?_
  rintro e w4 ⟨v4, rfl, -, hb4⟩
  have HB34 : Hid (Below w3.heap.size w3 w4) := Lib.hid (HBo.out.trans (hb4.mono (by simp)))
  have hP4 := HP3.out.below HB34.out
  have hX4 := (hb4.block w3.heap.size (by simp)).trans HO.out
  have HP4 : Hid (∀ V, Below w4.heap.size w4 V → PgAt V tinP A3 B3 D3 ca3 cb3 cd3) := Lib.hid fun V hV => hP4.below hV
  have HEQ : Hid (∀ V A, Below w4.heap.size w4 V → PgAt V tinP A none none 1 0 0 → Calls Try.prog 22 #[pv tinP A3 B3 D3 ca3 cb3 cd3, pv tinP A none none 1 0 0] V fun e w' => e = .returned (.bool true) ∧ Below V.heap.size V w') := Lib.hid fun V A hV hA => by
    have := requal_any tinP A3 B3 D3 ca3 cb3 cd3 tinP A none none 1 0 0 V (HP4.out V hV) hA
    rw [decide_eq_true rfl] at this; exact this
  have HSU : Hid (∀ V, Calls Try.prog 12 #[.slice none 0 0] V fun e w' => e = .returned (.int .u32 2166136261) ∧ V = w') := Lib.hid fun V => osum_any none [] 0 V (by simp) (.inl rfl)
  obtain ⟨⟨d0, d1, d2, d3⟩, _⟩ := cells4 hX4
  have HB4 : Hid (Below w.heap.size w w4) := Lib.hid (HB3.out.trans (HB34.out.mono HB3.out.size))
  have HD := Lib.hid (And.intro d0 (And.intro d1 (And.intro d2 (And.intro d3 (Below.drew (Below.refl w4.heap.size w4))))))
  have HK : Hid (∀ V W, (V.cell? ⟨w3.heap.size, 0, none⟩ = some (.slice A3 tinP.funcs.length ca3) ∧ V.cell? ⟨w3.heap.size, 1, none⟩ = some (.slice B3 tinP.globals.length cb3) ∧ V.cell? ⟨w3.heap.size, 2, none⟩ = some (.slice D3 tinP.layouts.length cd3) ∧ V.cell? ⟨w3.heap.size, 3, none⟩ = some (.int .i64 tinP.main) ∧ Below w4.heap.size w4 V) → Below V.heap.size V W →
      (W.cell? ⟨w3.heap.size, 0, none⟩ = some (.slice A3 tinP.funcs.length ca3) ∧ W.cell? ⟨w3.heap.size, 1, none⟩ = some (.slice B3 tinP.globals.length cb3) ∧ W.cell? ⟨w3.heap.size, 2, none⟩ = some (.slice D3 tinP.layouts.length cd3) ∧ W.cell? ⟨w3.heap.size, 3, none⟩ = some (.int .i64 tinP.main) ∧ Below w4.heap.size w4 W)) := Lib.hid fun V W ⟨y0, y1, y2, y3, b⟩ hb =>
    ⟨cell_bel y0 hb, cell_bel y1 hb, cell_bel y2 hb, cell_bel y3 hb, b.trans (hb.mono b.size)⟩
  clear hb4 hX4 hP4
  go_wp2_with fail
  go_region_held3 (fun V => V.cell? ⟨w3.heap.size, 0, none⟩ = some (.slice A3 tinP.funcs.length ca3) ∧ V.cell? ⟨w3.heap.size, 1, none⟩ = some (.slice B3 tinP.globals.length cb3) ∧ V.cell? ⟨w3.heap.size, 2, none⟩ = some (.slice D3 tinP.layouts.length cd3) ∧ V.cell? ⟨w3.heap.size, 3, none⟩ = some (.int .i64 tinP.main) ∧ Below w4.heap.size w4 V)
      (first
        | exact HD.out
        | assumption
        | exact HK.out _ _ ‹_› hbb)
      (first
        | (go_at_call 23; (with_reducible refine (HT.out _).mono ?_); rintro e w5 ⟨A5, rfl, hp5, hbb⟩)
        | (go_at_call 22; (with_reducible refine (HEQ.out _ _ ?_ hp5).mono ?_); (go_split_ands; assumption); rintro e w6 ⟨rfl, hbb⟩)
        | (go_at_call 12; (with_reducible refine (HSU.out _).mono ?_); rintro e w7 ⟨rfl, rfl⟩))
  all_goals
    have HZ : Hid (Below w4.heap.size w4 w6) := Lib.hid (by go_split_ands; assumption)
    go_wp2
    go_ret
    exact ⟨rfl, HB4.out.trans (HZ.out.mono HB4.out.size)⟩
end Go.Proofs.Ytlkaeonedijfpaa
