/-
  Proved: for every slice of tokens and every text that are passed in, the call of ScanJoin returns true, and both read afterwards as they read before. Conditions: what is read is of bulk at most 1048576 (the second form); the six listed package-level variables (the tables of math/bits and of strconv, the two errors of strconv, the operators of scan) hold at the call what their initialisers lay; the card ties that to the text of the program.
-/
import Derived.Test.YtaalgkcbknlccaaDoorG2
namespace Go.Proofs.YtaalgkcbknlccaaDoor
open Go.ChangeShapes Go.WideShapes Go.Deep Go.ChangeAt Go.RowKit M
open Go.ChangeMaps (open_string shut_string)
namespace S7

theorem law_any (A : Option Addr) (n cap : Nat) (s : ByteArray) (hs : s.size ≤ maxLen) (w : World) (hG : Glob w) (hn : n ≤ maxLen)
    (h : (A = none ∧ cap = 0 ∧ n = 0) ∨ (∃ a, A = some a ∧ n = 0) ∨ ∃ g off l, A = some ⟨g, off, none⟩ ∧ g < w.heap.size ∧ ArgL w g off l ∧ 0 < l.length ∧ l.length = n ∧ total (atexts l) ≤ 1048576) :
    Calls Tryd.prog 7 #[.slice A n cap, .string s] w fun e w' => e = .returned (.bool true) ∧ Below w.heap.size w w' := by
  by_cases h50 : 50 < n
  · exact join_long1 A n cap s w hG h50 hn
  · by_cases h300 : 300 < s.size
    · exact join_long2 A n cap s w hG (by omega) h300 hs
    · by_cases he : scanE s.data.toList = 0
      · rcases h with ⟨rfl, rfl, rfl⟩ | ⟨a, rfl, rfl⟩ | ⟨g, off, l, rfl, hg, hl, h0, rfl, ht⟩
        · exact join_nil_ok s w hG (by omega) he
        · exact join_empty_ok a cap s w hG (by omega) he
        · exact join_some_ok g off cap l s w hG hg hl h0 (by omega) ht (by omega) he
      · rcases h with ⟨rfl, rfl, rfl⟩ | ⟨a, rfl, rfl⟩ | ⟨g, off, l, rfl, hg, hl, h0, rfl, ht⟩
        · exact join_nil_err s w hG (by omega) he
        · exact join_empty_err a cap s w hG (by omega) he
        · exact join_some_err g off cap l s w hG hg hl h0 (by omega) ht (by omega) he

theorem contract (H : Type) (enc : TypeId × Value → H) (W : World) (base : Nat) (args : Array Value) (ds gs : List (DataW H)) (before : List MemPlace)
    (hval0 : ∀ (j : Nat) t v, Tryd.f7.params[j]? = some t → args[j]? = some v → Value.okWide Tryd.prog W .any base t v)
    (hW : DataW.Whole enc Tryd.prog Tryd.f7.params.toList Rows.scanJoinSpec.vars false W args.toList ds gs before) (hL : laidMetH Tryd.prog Rows.scanTokensRow.laid W) (hB : Rows.uptoSmall H (ds ++ gs) = true) :
    Calls Tryd.prog 7 args W fun e W' => ∃ v, e = .returned v ∧ Rows.scanJoinSpec.post enc Tryd.prog Tryd.f7 false true false false W args v W' := by
  have hval : ∀ (j : Nat) t v, Tryd.f7.params[j]? = some t → args[j]? = some v → Value.okWide Tryd.prog W .any base t v := hval0
  have hW' := hW
  obtain ⟨p, q, hA0, hV, rfl, hfz, hnd⟩ := hW
  have hA : DataW.TrodAll enc Tryd.prog W 0 (fun _ => true) true Tryd.f7.params.toList args.toList ds p := hA0
  rw [Tryd.params7] at hA hval
  obtain ⟨v0, vs0, d0, ds0, p0, q0, hargs, rfl, rfl, h0, r0⟩ := trodAll_cons hA
  obtain ⟨v1, vs1, d1, ds1, p1, q1, rfl, rfl, rfl, h1, r1⟩ := trodAll_cons r0
  obtain ⟨rfl, rfl, rfl⟩ := trodAll_nil r1
  obtain rfl : args = #[v0, v1] := by cases args; simp_all
  obtain ⟨rfl, rfl⟩ := trodVars_none hV
  have lt0 : ∀ x ∈ p0, x.block < W.heap.size := by obtain ⟨m, hm⟩ := h0; exact DataW.trod_lt m _ _ _ hm
  have hbulk : Rows.uptoBulk d0 ≤ 1048576 := by
    have := of_decide_eq_true hB
    simp [Rows.uptoBulkAll] at this
    omega
  obtain ⟨ao, n, cap, rfl, hn, hcase⟩ : ∃ ao n cap, v0 = .slice ao n cap ∧ n ≤ maxLen ∧ ((ao = none ∧ cap = 0 ∧ n = 0) ∨ (∃ a, ao = some a ∧ n = 0) ∨ ∃ g off l, ao = some ⟨g, off, none⟩ ∧ g < W.heap.size ∧ ArgL W g off l ∧ 0 < l.length ∧ l.length = n ∧ total (atexts l) ≤ 1048576) := by
    obtain ⟨a0, n0, c0, rfl⟩ := okWide_slice Tryd.underlying23 (hval 0 23 v0 rfl rfl)
    obtain ⟨m, hm⟩ := h0
    rcases open_toks hm with hc | ⟨a, cap, l, hc, hl, ht, hx⟩
    · simp [Value.cells] at hc
      obtain ⟨rfl, rfl, rfl⟩ := hc
      exact ⟨none, 0, 0, rfl, by unfold maxLen; omega, .inl ⟨rfl, rfl, rfl⟩⟩
    · simp [Value.cells] at hc
      obtain ⟨rfl, rfl, rfl⟩ := hc
      refine ⟨some a, l.length, c0, rfl, hl, ?_⟩
      by_cases h0 : l.length = 0
      · exact .inr (.inl ⟨a, rfl, h0⟩)
      · obtain ⟨g, off, rfl, hg, hA⟩ := hx (by omega)
        exact .inr (.inr ⟨g, off, l, rfl, hg, hA, by omega, rfl, Nat.le_trans ht hbulk⟩)
  obtain ⟨s1, rfl, rfl, rfl, hs1⟩ := open_string Tryd.underlying9 (hval 1 9 v1 rfl rfl) h1
  clear hA0 hval0
  refine (law_any ao n cap s1 hs1 W (glob_of hL) hn hcase).mono fun e W' ⟨he, bel⟩ => ?_
  subst he
  exact ⟨_, rfl, _, _, _, [], _, [], hW', trodAll_mk1 (shut_bool Tryd.underlying4 _), (trodAll_cons_mk (Below.trod laidOut (by kernel_rfl) (of_decide_eq_true (by kernel_rfl)) h0 bel lt0) (trodAll_cons_mk (shut_string Tryd.underlying9 hs1) trodAll_mk0)), rfl, bel.frame _, fun h => by cases h⟩

theorem reads (os : Os) {H : Type} (enc : TypeId × Value → H) : ∃ places, DataW.whole enc Tryd.prog ((laidWorld os).forCall (fun _ _ => 0) ⟨#[], #[.slice none 0 0, .string ⟨#[]⟩], []⟩).memory Tryd.f7.params.toList Rows.scanJoinSpec.vars false #[Value.slice none 0 0, Value.string ⟨#[]⟩].toList 8 = some ([.nil, .lit (.string [])], [], places) :=
  ⟨[], by kernel_rfl⟩

set_option maxRecDepth 100000 in
theorem lifted (os : Os) (started : os.Started) (H : Type) (enc : TypeId × Value → H) (F : Stop.Interp) :
    ReturnsInHanded {} Tryd.checked os 7 .any ((Rows.OpenSpec.upto Rows.scanJoinSpec).preRow enc Tryd.prog Tryd.f7 Rows.scanJoinUptoRow.domain false Rows.scanJoinUptoRow.laid) (((Rows.OpenSpec.upto Rows.scanJoinSpec).at F).post enc Tryd.prog Tryd.f7 false true false false) := by
  obtain ⟨places, hx⟩ := reads os enc
  refine returnsInHanded_of_row (C := Tryd.checked) (s := (Rows.OpenSpec.upto Rows.scanJoinSpec)) own started (by kernel_rfl) Tryd.func7
    (witness_row_atRef (enc := enc) (C := Tryd.checked) false (laidWorld os) #[.slice none 0 0, .string ⟨#[]⟩] rfl (by kernel_rfl) (by kernel_rfl) (by kernel_rfl)
      (OpenSpec.preRow_of_cond 8 hx (by kernel_rfl) (fun k hk => by cases hk; kernel_rfl) (by kernel_rfl) (laid_met os _))) ?_
  intro W base args ds gs before hval hW _ hk _ hL _ _
  exact contract H enc W base args ds gs before hval hW hL (hk _ rfl)

theorem said : Rows.ScanJoinUptoSaid :=
  OpenClaim.holds_of_cond 7 Tryd.f7 rfl rfl rfl rfl rfl rfl rfl ⟨rfl, rfl, rfl, rfl, rfl⟩ rfl rfl rfl rfl rfl (by kernel_rfl) Tryd.func7 (by kernel_rfl)
    (of_decide_eq_true (by kernel_rfl)) (by unfold Func.isWrapper; first | (rw [if_pos (by decide +kernel)]; kernel_rfl) | (rw [if_neg (by decide +kernel)]; exact ⟨rfl, rfl⟩))
    (fun os started H enc _ F => by rw [OpenClaim.pre_eq_preRow]; exact lifted os started H enc F)

theorem plain (f : FuncId) (fn : Func) (hf : Tryd.pinned.checked.prog.funcNamed "interleave/interleavelaw02.ScanJoin" = some f) (hfn : Tryd.pinned.checked.prog.funcs[f]? = some fn) :
    true = Tryd.pinned.checked.prog.looks [] ∧ ∀ (j : Nat) t, fn.params[j]? = some t → Tryd.pinned.checked.prog.wantsStandIn t = false := by
  obtain rfl : f = 7 := Option.some.inj ((show Tryd.prog.funcNamed "interleave/interleavelaw02.ScanJoin" = some 7 by kernel_rfl).symm.trans hf) |>.symm
  obtain rfl : fn = Tryd.f7 := (Option.some.inj (Tryd.func7.symm.trans hfn)).symm
  refine ⟨by kernel_rfl, fun j t ht => ?_⟩
  rw [Tryd.params7] at ht
  have hm := Array.mem_of_getElem? ht
  simp only [List.mem_toArray, List.mem_cons, List.not_mem_nil, or_false] at hm
  rcases hm with rfl | rfl
  · exact (show Tryd.prog.wantsStandIn 23 = false by kernel_rfl)
  · exact (show Tryd.prog.wantsStandIn 9 = false by kernel_rfl)
end S7

/-- The card. -/
theorem scanJoinUpto_holds : Rows.ScanJoinUptoCardSaid :=
  Claim7.holds_tied_plain_at .later [] _ _ _ _ S7.said (fun _ h => by cases h) (by kernel_rfl) (fun _ h => by cases h) scanJoinUpto_row_tie rfl ⟨rfl, rfl⟩ (by kernel_rfl) rfl S7.plain (by kernel_rfl)

#print axioms scanJoinUpto_holds
end Go.Proofs.YtaalgkcbknlccaaDoor
