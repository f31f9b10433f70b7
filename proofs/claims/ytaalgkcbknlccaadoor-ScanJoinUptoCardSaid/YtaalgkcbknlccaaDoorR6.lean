/-
  The walk of the specification's All.
-/
import Derived.Test.YtaalgkcbknlccaaDoorR5
namespace Go.Proofs.YtaalgkcbknlccaaDoor
open Go.RowKit M

theorem results_four {fn : Func} {t u v x : Tmp} (h : fn.results = #[.tmp t, .tmp u, .tmp v, .tmp x]) (tmps : Array Value) (P : Program) (w : World) :
    (results fn tmps).run P w = .ok (.tuple #[tmps.getD t undef, tmps.getD u undef, tmps.getD v undef, tmps.getD x undef]) w := by simp [results, h]

/-- What All leaves. -/
def AllRes (w : World) (lo lc : List Tok) (a err : Nat) (e : Ending) (w' : World) : Prop :=
  ∃ A1 c1 A2 c2, e = .returned (.tuple #[.slice A1 lo.length c1, .slice A2 lc.length c2, .int .i64 (a : Int), .int .i64 (err : Int)]) ∧
    w'.ownsRow w.heap.size 33 3 (.slice A1 lo.length c1) lo.length (cells lo) ∧ w'.ownsRow w.heap.size 33 3 (.slice A2 lc.length c2) lc.length (cells lc) ∧ Below w.heap.size w w'

set_option maxRecDepth 100000 in
theorem all_long (s : ByteArray) (w : World) (hs : 20000 < s.size) (hm : s.size ≤ maxLen) :
    Calls Tryd.prog 25 #[.string s] w (AllRes w [] [] 0 3) := by
  unfold maxLen at hm
  have h1 : (20000 : Int) < (s.size : Int) := by omega
  have h2 : decide ((20000 : Int) < (s.size : Int)) = true := by simp; omega
  go_enter Tryd.func25, Tryd.ntmps25
  go_wp2
  refine bodyPost_ret (results_four rfl _ _ _) rfl ?_
  exact ⟨none, 0, none, 0, rfl, World.ownsRow_nil _ _ _ _, World.ownsRow_nil _ _ _ _, Below.refl _ _⟩

theorem all_end {w wr : World} {s : ByteArray} {out com : List Tok} {a e1 e2 c1 c2 : Nat} {A1 A2 : Option Addr} (h : AInv w s out com a A1 A2 c1 c2 wr) (ht : toks (s.data.toList.drop a) a (lastE out) = ([], e1, e2)) :
    AllRes w ((scanAll s.data.toList).1.filter nc) ((scanAll s.data.toList).1.filter ic) (scanAll s.data.toList).2.1 (scanAll s.data.toList).2.2 (.returned (.tuple #[.slice A1 out.length c1, .slice A2 com.length c2, .int .i64 (e1 : Int), .int .i64 (e2 : Int)])) wr := by
  have e := h.eq
  rw [ht] at e
  simp only [List.filter_nil, List.append_nil, Prod.mk.injEq] at e
  obtain ⟨q1, q2, q3⟩ := e
  rw [← q1, ← q2, ← q3]
  exact ⟨A1, c1, A2, c2, rfl, h.own1, h.own2, h.below⟩

theorem far_own {w : World} {base n : Nat} {v : Value} {xs : List Value} (h : w.ownsRow base 33 3 v n xs) : some w.heap.size ≠ v.ownBlock := by
  intro e
  have := (h.lt _ e.symm).2
  omega
theorem ends_v {k a : Nat} {t : Bs} {v : Bool} (h : endB k t = v) (w : World) : Calls Tryd.prog 33 #[tv k ⟨t.toArray⟩ a] w fun e w' => e = .returned (.bool v) ∧ Below w.heap.size w w' := by
  have := ends_any k ⟨t.toArray⟩ a w
  rw [ByteArray.toList_eq] at this
  rw [← h]
  exact this
theorem after_five (ins : Bool) (t : Bs) : after 5 ins t = ins := rfl
theorem after_other {k : Nat} (h : k ≠ 5) (ins : Bool) (t : Bs) : after k ins t = endB k t := if_neg h

set_option maxRecDepth 100000 in
set_option maxHeartbeats 4000000 in
theorem all_short (s : ByteArray) (w : World) (hs : s.size ≤ 20000) :
    Calls Tryd.prog 25 #[.string s] w (AllRes w ((scanAll s.data.toList).1.filter nc) ((scanAll s.data.toList).1.filter ic) (scanAll s.data.toList).2.1 (scanAll s.data.toList).2.2) := by
  obtain ⟨i0, hi, hz0, hz1, hz2⟩ := info_parts info33
  have h1 : decide ((20000 : Int) < (s.size : Int)) = false := by simp; omega
  have H0 : Hid (AInv w s [] [] 0 none none 0 0 w) := ⟨Nat.zero_le _, Nat.le_refl _, Nat.le_refl _, World.ownsRow_nil _ _ _ _, World.ownsRow_nil _ _ _ _, .inl rfl, Below.refl _ _, rfl⟩
  go_enter Tryd.func25, Tryd.ntmps25
  go_wp2
  go_loopw [6, 7, 8] (fun v1 v2 i wr => ∃ out com a A1 A2 c1 c2, v1 = .slice A1 out.length c1 ∧ v2 = .slice A2 com.length c2 ∧ i = .int .i64 ((a : Nat) : Int) ∧ AInv w s out com a A1 A2 c1 c2 wr) (fun _ _ i _ => s.size - (intOf i).toNat)
  case atStart => exact ⟨[], [], 0, none, none, 0, 0, rfl, rfl, rfl, H0.out⟩
  case round =>
    obtain ⟨out, com, a, A1, A2, c1, c2, rfl, rfl, rfl, hr⟩ := hrel
    have hle := hr.le
    have hl1 := hr.l1
    have hl2 := hr.l2
    have HR := Lib.hid hr
    clear hr H0
    by_cases hin : a < s.size
    · have hb0 : (0 : Int) ≤ (a : Int) := by omega
      have hb1 : (a : Int) < (s.size : Int) := by omega
      obtain ⟨c, hc⟩ : ∃ c, s[a].toNat = c := ⟨_, rfl⟩
      by_cases hw : c = 32 ∨ c = 9 ∨ c = 13
      · have HSK := Lib.hid (HR.out.skip hin (by rw [hc]; unfold sep; rcases hw with rfl | rfl | rfl <;> rfl))
        rcases hw with rfl | rfl | rfl
        all_goals
          go_wp2
          go_roundw
          case rel => exact ⟨out, com, a + 1, A1, A2, c1, c2, rfl, rfl, by go_num, HSK.out⟩
          case measure => simp [intOf]; omega
      · have g1 : ((c : Int) == 32) = false := by simp; omega
        have g2 : ((c : Int) == 9) = false := by simp; omega
        have g3 : ((c : Int) == 13) = false := by simp; omega
        by_cases h10 : c = 10
        · subst h10
          cases hv : lastE out
          · have HSK := Lib.hid (HR.out.skip hin (by rw [hc, hv]; rfl))
            rcases List.eq_nil_or_concat out with ho | ⟨o, tk, ho⟩
            · subst ho
              clear hv hw
              go_wp2
              go_roundw
              case rel => exact ⟨[], com, a + 1, A1, A2, c1, c2, rfl, rfl, by go_num, HSK.out⟩
              case measure => simp [intOf]; omega
            · have hE : endB tk.k tk.t = false := by rw [ho, List.concat_eq_append, lastE_snoc] at hv; exact hv
              have hlen : out.length = o.length + 1 := by rw [ho]; simp
              have hge : out[o.length]'(by omega) = tk := by simp [ho]
              obtain ⟨g, cp, hA, hg0, hg1⟩ := HR.out.own1.form (by omega)
              injection hA with e1 e2 e3
              subst e1 e3
              obtain ⟨d0, d1, d2⟩ := lies_of HR.out.own1 o.length (by omega)
              rw [hge] at d0 d1 d2
              have HE := Lib.hid hE
              have hp0 : (0 : Int) < (out.length : Int) := by omega
              have hp1 : (0 : Int) ≤ (out.length : Int) - 1 := by omega
              have hp2 : (1 : Int) ≤ (out.length : Int) := by omega
              have hp3 : (out.length : Int) - 1 < (out.length : Int) := by omega
              have ht1 : ((out.length : Int) - 1).toNat = o.length := by omega
              clear ho hE hlen hge hv hw
              go_wp2_with (go_at_call 33; refine (ends_v HE.out _).mono ?_; rintro e w2 ⟨rfl, hb2⟩)
              go_roundw
              case rel => exact ⟨out, com, a + 1, some ⟨g, 0, none⟩, A2, c1, c2, rfl, rfl, by go_num, HSK.out.keep hb2⟩
              case measure => simp [intOf]; omega
          · rcases List.eq_nil_or_concat out with ho | ⟨o, tk, ho⟩
            · subst ho; cases hv
            · have hE : endB tk.k tk.t = true := by rw [ho, List.concat_eq_append, lastE_snoc] at hv; exact hv
              have hlen : out.length = o.length + 1 := by rw [ho]; simp
              have hge : out[o.length]'(by omega) = tk := by simp [ho]
              have hst : Hid (Step s a (lastE out) 4 1 false [59]) := by
                refine ⟨Nat.le_refl _, by omega, ?_⟩
                rw [drop_at s a hin, toks_feed (by rw [hc, hv]; rfl) hc]
              obtain ⟨g, cp, hA, hg0, hg1⟩ := HR.out.own1.form (by omega)
              injection hA with e1 e2 e3
              subst e1 e3
              obtain ⟨d0, d1, d2⟩ := lies_of HR.out.own1 o.length (by omega)
              rw [hge] at d0 d1 d2
              have HE := Lib.hid hE
              have hp0 : (0 : Int) < (out.length : Int) := by omega
              have hp1 : (0 : Int) ≤ (out.length : Int) - 1 := by omega
              have hp2 : (1 : Int) ≤ (out.length : Int) := by omega
              have hp3 : (out.length : Int) - 1 < (out.length : Int) := by omega
              have ht1 : ((out.length : Int) - 1).toNat = o.length := by omega
              clear ho hE hlen hge hv hw
              go_wp2_with fail
              refine (ends_v HE.out _).mono ?_
              rintro e w2 ⟨rfl, hb2⟩
              have HR2 := Lib.hid (HR.out.keep hb2)
              clear hb2 d0 d1 d2 ht1
              go_wp2_with (at_builtin; refine wpList_append_lies _ rfl _ _ _ rfl w.heap.size 33 i0 _ 3 32 Tryd.underlying23 hi hz0 hz1 hz2 rfl (by omega) (.slice (some ⟨g, 0, none⟩) out.length c1) out.length (cells out) rfl (HR2.out.own1.alloc _) ⟨w2.heap.size, 0, none⟩ 1 1 (cell1 ⟨4, [59], a⟩) rfl rfl (World.news_of_block (cs := #[.int .i64 4, .string ⟨#[59]⟩, .int .i64 (a : Int)]) (t := 33) (fr := (0, 0)) (heap_alloc_new w2 _)) (by simp [Value.oneCell', cell1]) (by omega) (by unfold maxLen; omega) (by omega) (by simp; have := HR2.out.below.size; omega) (w2.heap.size + 1) (by simp) ?_; intro g1 cap1 w4 hown1 hgrow1 hat1 hlt1)
              have R := Lib.hid (AInv.push1 (HR2.out.alloc _) hst.out rfl (by decide) hown1 hgrow1 hat1 (by simp))
              clear hown1 hgrow1 hat1
              go_roundw
              case rel => exact ⟨out ++ [⟨4, [59], a⟩], com, a + 1, some ⟨g1, 0, none⟩, A2, cap1, c2, by rw [List.length_append]; rfl, rfl, by go_num, R.out⟩
              case measure => simp [intOf]; omega
        · have g4 : ((c : Int) == 10) = false := by simp; omega
          have hsep : sep (lastE out) s[a].toNat = false := by rw [hc]; unfold sep; simp; omega
          rcases rnext_case (lastE out) wr hs hin (by rw [hc]; exact h10) hsep with ⟨k, n, t, st, ht, hcall⟩ | ⟨err, herr, htk, hcall⟩
          · have HC := Lib.hid hcall
            have ST := Lib.hid st
            have HT : Hid ((⟨t.toArray⟩ : ByteArray).size = n) := by rw [← ht]; rfl
            have hT2 := Lib.hid ht
            clear hcall st ht hw h10 hsep
            go_wp2_with fail
            refine HC.out.mono ?_
            rintro e w2 ⟨rfl, hb2⟩
            have HR2 := Lib.hid (HR.out.keep hb2)
            clear hb2
            have hpos := ST.out.pos
            have hlen := ST.out.le
            by_cases hk : k = 5
            · subst hk
              have hT := HT.out
              have hT3 := hT2.out
              go_wp2_with (at_builtin; refine wpList_append_lies _ rfl _ _ _ rfl w.heap.size 33 i0 _ 3 32 Tryd.underlying23 hi hz0 hz1 hz2 rfl (by omega) (.slice A2 com.length c2) com.length (cells com) rfl ((HR2.out.own2.alloc _).alloc _) ⟨w2.heap.size + 1, 0, none⟩ 1 1 (cell1 ⟨5, t, a⟩) rfl rfl (World.news_of_block (cs := #[.int .i64 5, .string ⟨t.toArray⟩, .int .i64 (a : Int)]) (t := 33) (fr := (0, 0)) (heap_alloc2_new w2 _ _)) (by simp [Value.oneCell', cell1]) (by omega) (by unfold maxLen; omega) (by omega) (by simp; have := HR2.out.below.size; omega) (w2.heap.size + 2) (by simp) ?_; intro g1 cap1 w4 hown1 hgrow1 hat1 hlt1; have r1 : w4.cell? ⟨w2.heap.size, 1, none⟩ = some (.string ⟨t.toArray⟩) := (hgrow1.cell_far ⟨w2.heap.size, 1, none⟩ (by show w2.heap.size < _; simp; omega) (far_own HR2.out.own2)).trans (by simp))
              have R := Lib.hid (AInv.push2 ((HR2.out.alloc _).alloc _) ST.out (after_five _ _) rfl hown1 hgrow1 hat1 (by simp))
              clear hown1 hgrow1 hat1 hT hT3
              go_roundw
              case rel => exact ⟨out, com ++ [⟨5, t, a⟩], a + n, A1, some ⟨g1, 0, none⟩, c1, cap1, rfl, by rw [List.length_append]; rfl, by go_num, R.out⟩
              case measure => simp [intOf]; omega
            · have hkq : ((k : Int) == 5) = false := by simp; omega
              have hT := HT.out
              have hT3 := hT2.out
              have HK5 := Lib.hid hk
              clear hk
              go_wp2_with (at_builtin; refine wpList_append_lies _ rfl _ _ _ rfl w.heap.size 33 i0 _ 3 32 Tryd.underlying23 hi hz0 hz1 hz2 rfl (by omega) (.slice A1 out.length c1) out.length (cells out) rfl ((HR2.out.own1.alloc _).alloc _) ⟨w2.heap.size + 1, 0, none⟩ 1 1 (cell1 ⟨k, t, a⟩) rfl rfl (World.news_of_block (cs := #[.int .i64 (k : Int), .string ⟨t.toArray⟩, .int .i64 (a : Int)]) (t := 33) (fr := (0, 0)) (heap_alloc2_new w2 _ _)) (by simp [Value.oneCell', cell1]) (by omega) (by unfold maxLen; omega) (by omega) (by simp; have := HR2.out.below.size; omega) (w2.heap.size + 2) (by simp) ?_; intro g1 cap1 w4 hown1 hgrow1 hat1 hlt1; have r1 : w4.cell? ⟨w2.heap.size, 1, none⟩ = some (.string ⟨t.toArray⟩) := (hgrow1.cell_far ⟨w2.heap.size, 1, none⟩ (by show w2.heap.size < _; simp; omega) (far_own HR2.out.own1)).trans (by simp))
              have R := Lib.hid (AInv.push1 ((HR2.out.alloc _).alloc _) ST.out (after_other HK5.out _ _) HK5.out hown1 hgrow1 hat1 (by simp))
              clear hown1 hgrow1 hat1 hT hT3
              go_roundw
              case rel => exact ⟨out ++ [⟨k, t, a⟩], com, a + n, some ⟨g1, 0, none⟩, A2, cap1, c2, by rw [List.length_append]; rfl, rfl, by go_num, R.out⟩
              case measure => simp [intOf]; omega
          · have HE : ((err : Int) != 0) = true := by simp; omega
            have HC := Lib.hid hcall
            have HK := Lib.hid htk
            clear hcall htk herr hw h10 hsep
            go_wp2_with fail
            refine HC.out.mono ?_
            rintro e w2 ⟨k, t, ao, rfl, hb2⟩
            have HR2 := Lib.hid (HR.out.keep hb2)
            clear hb2
            go_wp2
            refine bodyPost_ret (results_four rfl _ _ _) rfl ?_
            exact all_end (HR2.out.alloc _) HK.out
    · obtain rfl : a = s.size := by omega
      have hd : decide ((s.size : Int) < (s.size : Int)) = false := by simp
      go_wp2
      refine bodyPost_ret (results_four rfl _ _ _) rfl ?_
      exact all_end HR.out (by rw [List.drop_of_length_le (by simp)]; rfl)
end Go.Proofs.YtaalgkcbknlccaaDoor
