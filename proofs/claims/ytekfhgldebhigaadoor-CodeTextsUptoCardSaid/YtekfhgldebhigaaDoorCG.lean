/-
  The walk of the program's areNames; what a map of bools answers.
-/
import Derived.Test.YtekfhgldebhigaaDoorCF
import Derived.Maps.OwnSet
set_option linter.all false
namespace Go.Proofs.YtekfhgldebhigaaDoor
open Go.RowKit C
open Go.Maps (Keyed)
theorem plainElem_bool_inv {H : Type} {P : Program} {e : TypeId} (he : P.underlying e = some .bool) {v : Value} {z : DataW H × List MemPlace} (h : plainElem P e v = some z) : ∃ x, v = .bool x ∧ z = (.lit (.bool x), []) := by
  unfold plainElem at h
  rw [he] at h
  cases v <;> simp at h
  exact ⟨_, rfl, h.symm⟩
theorem wpList_lookup_own_bool {H : Type} {P : Program} (w : World) {ops : Array Oper} {rest : List Oper} {o : Oper} {a : Act} {Q : Exit → Act → World → Prop}
    (hg : o.guard = none) (m x : Operand) (t : TypeId) (hop : o.op = Op.lookup t m x false)
    (k e : TypeId) (K : Keyed P k) (ht : P.underlying t = some (.map k e)) (he : P.underlying e = some .bool) (hz : (zeroValue e).run P w = .ok (.bool false) w) (b n : Nat) (D : DataW H)
    (hm : a.eval m = .map (some b)) (hown : w.ownsMap P k (plainElem P e) b n D) (key : Value) (kl : Lit) (hx : a.eval x = key) (hkey : keyOf P k key = some kl) (c : Bool) (hc : D.atKey kl (.lit (.bool false)) = .lit (.bool c))
    (hK : wpList P ops Q rest (a.put o.dst (.bool c)) w) :
    wpList P ops Q (o :: rest) a w := by
  refine wpList_plain hg fun K' hK' => ?_
  obtain ⟨v, ps, hrun, hv⟩ := hown.lookup K ht hz (plainElem_bool he false) hkey
  obtain ⟨y, rfl, hy⟩ := plainElem_bool_inv he hv
  rw [hc] at hy
  simp only [Prod.mk.injEq, DataW.lit.injEq, Lit.bool.injEq] at hy
  obtain ⟨rfl, _⟩ := hy
  unfold Oper.wp
  simp [execOp, hop, hm, hx, hrun, Result.andThen]
  exact hK' _ _ hK
theorem wpList_insert_own {H : Type} {P : Program} (w : World) {ops : Array Oper} {rest : List Oper} {o : Oper} {a : Act} {Q : Exit → Act → World → Prop}
    (hg : o.guard = none) (m x v : Operand) (t : TypeId) (hop : o.op = Op.insert t m x v)
    (k e : TypeId) (K : Keyed P k) (ht : P.underlying t = some (.map k e)) (R : Value → Option (DataW H × List MemPlace)) (b n : Nat) (D : DataW H)
    (hm : a.eval m = .map (some b)) (hown : w.ownsMap P k R b n D) (hn : n < maxLen) (key val : Value) (kl : Lit) (hx : a.eval x = key) (hv : a.eval v = val) (hkey : keyOf P k key = some kl)
    (d : DataW H) (ps : List MemPlace) (hval : R val = some (d, ps))
    (hK : ∀ w', w'.ownsMap P k R b (n + 1) (D.put kl d) → w.grownBy w' (some b) → wpList P ops Q rest (a.put o.dst undef) w') :
    wpList P ops Q (o :: rest) a w := by
  refine wpList_plain hg fun K' hK' => ?_
  obtain ⟨w', hrun, r1, r2⟩ := hown.update K ht hn hkey hval
  unfold Oper.wp
  simp [execOp, hop, hm, hx, hv, hrun, Result.andThen]
  exact hK' _ _ (hK w' r1 r2)
def inB (s : ByteArray) (S : List ByteArray) : Bool := S.any fun t => decide (s = t)
theorem inB_iff {s : ByteArray} {S : List ByteArray} : inB s S = true ↔ s ∈ S := by
  unfold inB; simp
/-- What the map of names answers. -/
def Asks (D : DataW Unit) (S : List ByteArray) : Prop := Maps.IsMap D ∧ ∀ s : ByteArray, D.atKey (.string s.data.toList) (.lit (.bool false)) = DataW.lit (.bool (inB s S))
theorem asks_nil : Asks (.map []) [] := ⟨Maps.isMap_empty, fun s => rfl⟩
theorem asks_put {D : DataW Unit} {S : List ByteArray} (h : Asks D S) (t : ByteArray) : Asks (D.put (.string t.data.toList) (.lit (.bool true))) (t :: S) := by
  refine ⟨h.1.put _ _, fun s => ?_⟩
  by_cases e : s = t
  · subst e; rw [Maps.atKey_put_same h.1 (by simp [WideAt.IsKeyLit])]; simp [inB]
  · have hne : (Lit.string t.data.toList) ≠ .string s.data.toList := by
      intro h; injection h with h
      apply e
      cases s; cases t
      simp only at h
      congr 1
      exact (Array.toList_inj.1 h).symm
    rw [Maps.atKey_put_other (Ne.symm hne), h.2 s]; simp [inB, e]
theorem lawS : Keyed Tryd.prog 9 := Maps.string_keyed Tryd.underlying9
theorem zeroB (w : World) : (zeroValue 4).run Tryd.prog w = .ok (.bool false) w := by kernel_rfl
structure StrAt (w : World) (s : ByteArray) (g o : Nat) : Prop where
  lt : g < w.heap.size
  c0 : w.cell? ⟨g, o, none⟩ = some (.string s)
  s0 : s.size ≤ maxLen
theorem StrAt.below {W w : World} {s : ByteArray} {g o : Nat} (h : StrAt W s g o) (hb : Below W.heap.size W w) : StrAt w s g o :=
  ⟨by have := hb.size; have := h.lt; omega, by rw [bl_cell hb h.lt]; exact h.c0, h.s0⟩
def Names (w : World) (b n : Nat) (S : List ByteArray) (wr : World) : Prop := ∃ D : DataW Unit, wr.ownsMap Tryd.prog 9 (plainElem Tryd.prog 4) b n D ∧ Asks D S ∧ Below w.heap.size w wr
def seen (l : List ByteArray) (k : Nat) : List ByteArray := (l.take k).reverse ++ [⟨#[]⟩]
theorem seen_succ {l : List ByteArray} {k : Nat} (h : k < l.length) : seen l (k + 1) = l[k] :: seen l k := by
  unfold seen; rw [List.take_succ_eq_append_getElem h, List.reverse_append]; rfl
def okTo (l : List ByteArray) (k : Nat) : Prop := (l.take k).Nodup ∧ ∀ s ∈ l.take k, ¬ s.data.toList = []
theorem okTo_succ {l : List ByteArray} {k : Nat} (h : k < l.length) (hk : okTo l k) (hn : ¬ l[k] ∈ seen l k) : okTo l (k + 1) := by
  unfold okTo at hk ⊢
  unfold seen at hn
  simp only [List.mem_append, List.mem_reverse, List.mem_singleton, not_or] at hn
  rw [List.take_succ_eq_append_getElem h, List.nodup_append]
  refine ⟨⟨hk.1, by simp, fun a ha b hb e => ?_⟩, fun s hs => ?_⟩
  · simp only [List.mem_singleton] at hb; subst hb; subst e; exact hn.1 ha
  · rcases List.mem_append.1 hs with hs | hs
    · exact hk.2 s hs
    · simp only [List.mem_singleton] at hs; subst hs
      intro e
      apply hn.2
      generalize l[k] = z at e
      cases z
      simp only at e
      congr 1
      exact Array.toList_inj.1 e
theorem namesOk_end {l : List ByteArray} (h : okTo l l.length) : namesOk l = true := by
  unfold okTo at h; rw [List.take_length] at h
  unfold namesOk
  simp only [Bool.and_eq_true, decide_eq_true_eq, List.all_eq_true]
  exact h
theorem namesOk_bad {l : List ByteArray} {k : Nat} (h : k < l.length) (hm : l[k] ∈ seen l k) : namesOk l = false := by
  rw [← Bool.not_eq_true]
  unfold namesOk
  simp only [Bool.and_eq_true, decide_eq_true_eq, List.all_eq_true]
  rintro ⟨h1, h2⟩
  unfold seen at hm
  simp only [List.mem_append, List.mem_reverse, List.mem_singleton] at hm
  rcases hm with hm | hm
  · obtain ⟨i, hi, e⟩ := List.mem_iff_getElem.1 hm
    simp only [List.length_take] at hi
    rw [List.getElem_take] at e
    exact (List.pairwise_iff_getElem.1 h1) i k (by omega) h (by omega) e
  · exact h2 _ (List.getElem_mem h) (by rw [hm])
set_option maxRecDepth 100000 in
set_option maxHeartbeats 400000 in
theorem areNames_any (A : Option Addr) (l : List ByteArray) (cap : Nat) (w : World) (hl : l.length ≤ 64) (hr : Row 1 (StrAt w) A l) :
    Calls Tryd.prog 54 #[.slice A l.length cap] w fun e w' => e = .returned (.bool (namesOk l)) ∧ Below w.heap.size w w' := by
  have HR := Lib.hid hr
  clear hr
  have hmm := @run_makeMap Tryd.prog
  have hk0 : keyOf Tryd.prog 9 (.string ⟨#[]⟩) = some (.string (⟨#[]⟩ : ByteArray).data.toList) := WideMaps.keyOf_string_mk Tryd.underlying9 (by decide)
  have HK0 := Lib.hid hk0
  clear hk0
  have HM : Hid ((w.alloc (.map #[] 0)).ownsMap Tryd.prog 9 (plainElem Tryd.prog 4) w.heap.size 0 (.map [] : DataW Unit)) := Lib.hid (World.ownsMap_made _ _ _ _)
  go_enter Tryd.func54, Tryd.ntmps54
  go_wp2_with (refine wpList_insert_own (w.alloc (.map #[] 0)) rfl (.tmp 6) (.const (.string ⟨#[]⟩)) (.const (.bool true)) 91 rfl 9 4 lawS Tryd.underlying91 _ w.heap.size 0 _ (by rfl) HM.out (by unfold maxLen; omega) _ _ _ rfl rfl HK0.out (.lit (.bool true)) [] (plainElem_bool Tryd.underlying4 true) ?_)
  intro w1 hown1 hg1
  have hN : Hid (Names w w.heap.size 1 (seen l 0) w1) := Lib.hid ⟨_, hown1, asks_put asks_nil ⟨#[]⟩, (below1 w _).grown hg1 (by simp) (fun k hk => by cases hk; exact Nat.le_refl _)⟩
  clear hown1 hg1 hmm HM HK0
  go_wp2
  go_loopw [10] (fun i wr => ∃ k : Nat, k ≤ l.length ∧ i = .int .i64 k ∧ Hid (okTo l k) ∧ Hid (Names w w.heap.size (k + 1) (seen l k) wr)) (fun i _ => l.length - (intOf i).toNat)
  case atStart => exact ⟨0, Nat.zero_le _, rfl, Lib.hid ⟨by simp, by simp⟩, hN⟩
  case round =>
    clear hN
    obtain ⟨k, hk, rfl, hok, hn⟩ := hrel
    obtain ⟨D, hown, hask, hb⟩ := hn.out
    have HO := Lib.hid hown
    have HA := Lib.hid hask
    have HB := Lib.hid hb
    clear hown hask hb hn
    by_cases hlt : k < l.length
    · obtain ⟨g, o, rfl, hh⟩ := HR.out.at (by omega)
      have hx := (hh k hlt).below HB.out
      obtain ⟨x, hxe⟩ : ∃ x, l[k] = x := ⟨_, rfl⟩
      rw [hxe, Nat.mul_one] at hx
      have q0 := hx.c0
      have HX := Lib.hid hxe
      have HK : Hid (keyOf Tryd.prog 9 (.string x) = some (.string x.data.toList)) := Lib.hid (WideMaps.keyOf_string_mk Tryd.underlying9 hx.s0)
      clear hx hxe hh
      have hzb := Lib.hid (zeroB wr)
      by_cases hf : inB x (seen l k) = true
      · have hc : Hid (D.atKey (.string x.data.toList) (.lit (.bool false)) = .lit (.bool true)) := Lib.hid (by rw [HA.out.2, hf])
        have HF : Hid (namesOk l = false) := Lib.hid (namesOk_bad hlt (by rw [HX.out]; exact inB_iff.1 hf))
        clear hf
        go_wp2_with (at_lookup; go_must (refine wpList_lookup_own_bool _ rfl (.tmp 14) (.tmp 15) 91 rfl 9 4 lawS Tryd.underlying91 Tryd.underlying4 hzb.out w.heap.size (k + 1) D (by rfl) HO.out (.string x) _ (by rfl) HK.out true hc.out ?_))
        go_ret
        exact ⟨retb HF.out.symm, HB.out⟩
      · have hf2 : inB x (seen l k) = false := by simpa using hf
        have hc : Hid (D.atKey (.string x.data.toList) (.lit (.bool false)) = .lit (.bool false)) := Lib.hid (by rw [HA.out.2, hf2])
        have HT : Hid (okTo l (k + 1)) := Lib.hid (okTo_succ hlt hok.out (by rw [HX.out]; intro h; rw [inB_iff.2 h] at hf2; cases hf2))
        clear hf hf2
        go_wp2_with (first
          | (at_lookup; refine wpList_lookup_own_bool _ rfl (.tmp 14) (.tmp 15) 91 rfl 9 4 lawS Tryd.underlying91 Tryd.underlying4 hzb.out w.heap.size (k + 1) D (by rfl) HO.out (.string x) _ (by rfl) HK.out false hc.out ?_)
          | (at_mapUpdate
             refine wpList_mapUpdate_own wr rfl (.tmp 17) (.tmp 18) (.const (.bool true)) 91 rfl 9 4 lawS Tryd.underlying91 _ w.heap.size (k + 1) D (by rfl) HO.out (by unfold maxLen; omega) (.string x) _ _ (by rfl) rfl HK.out (.lit (.bool true)) [] (plainElem_bool Tryd.underlying4 true) ?_
             intro w1 hown1 hg1
             have hN : Hid (Names w w.heap.size (k + 1 + 1) (seen l (k + 1)) w1) := Lib.hid ⟨_, hown1, by rw [seen_succ hlt, HX.out]; exact asks_put HA.out x, HB.out.grown hg1 HB.out.size (fun k hk => by cases hk; exact Nat.le_refl _)⟩
             clear hown1 hg1))
        go_roundw
        case rel => exact ⟨k + 1, by omega, by go_num, HT, hN⟩
        case measure => simp [intOf]; omega
    · obtain rfl : k = l.length := by omega
      go_wp2
      go_ret
      exact ⟨retb (namesOk_end hok.out).symm, HB.out⟩
end Go.Proofs.YtekfhgldebhigaaDoor
