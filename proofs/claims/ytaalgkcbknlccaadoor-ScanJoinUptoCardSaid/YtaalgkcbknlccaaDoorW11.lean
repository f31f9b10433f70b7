/-
  next, as the mathematics tells it.
-/
import Derived.Test.YtaalgkcbknlccaaDoorW10
import Derived.Lib.IndexBytes
namespace Go.Proofs.YtaalgkcbknlccaaDoor
open Go.RowKit M

theorem ext_list (s : ByteArray) (a n : Nat) : (s.extract a (a + n)).data.toList = (s.data.toList.drop a).take n := by
  rw [Lib.extract_data, Nat.add_sub_cancel_left]
theorem ext_toList (s : ByteArray) (a n : Nat) : (s.extract a (a + n)).toList = (s.data.toList.drop a).take n := by
  rw [ByteArray.toList_eq, ext_list]
theorem drop_at (s : ByteArray) (a : Nat) (h : a < s.size) : s.data.toList.drop a = s[a] :: s.data.toList.drop (a + 1) := by
  have h2 : a < s.data.toList.length := by simpa using h
  rw [List.drop_eq_getElem_cons h2]
  rfl
theorem size_list (s : ByteArray) : s.size = s.data.toList.length := by simp

theorem get0 {s : ByteArray} {c : UInt8} {r : Bs} (h : s.data.toList = c :: r) (h0 : 0 < s.size) : s[0] = c := by
  have : s[0] = s.data.toList[0]'(by rw [← size_list]; exact h0) := by simp; rfl
  rw [this]
  simp [h]

section
variable {C a : Nat} {s : ByteArray} {ins : Bool} {w : World}

theorem int_good (h : Sc w C s a ins) (hs : s.size ≤ 20000) (ha : a < s.size) (hD : isD s[a].toNat = true)
    (hn : numOk ((s.data.toList.drop a).take (spn isD (s.data.toList.drop a))) = true) (hL : hdL ((s.data.toList.drop a).drop (spn isD (s.data.toList.drop a))) = false) :
    Calls Tryd.prog 41 #[.pointer (some ⟨C, 0, none⟩)] w (Ends w C s 2 (s.extract a (a + spn isD (s.data.toList.drop a))) a 0 (a + spn isD (s.data.toList.drop a)) (endB 2 (s.extract a (a + spn isD (s.data.toList.drop a))).toList)) := by
  have hpos : 1 ≤ spn isD (s.data.toList.drop a) := by rw [drop_at s a ha, spn_cons, if_pos hD]; omega
  have hle : spn isD (s.data.toList.drop a) ≤ s.size - a := by have := spn_le isD (s.data.toList.drop a); simp at this; omega
  have hX := ext_list s a (spn isD (s.data.toList.drop a))
  have hXne : (s.data.toList.drop a).take (spn isD (s.data.toList.drop a)) ≠ [] := by
    intro e; have := congrArg List.length e; simp at this; omega
  obtain ⟨c, r, hcr⟩ := List.exists_cons_of_ne_nil hXne
  have hsz : (s.extract a (a + spn isD (s.data.toList.drop a))).size = spn isD (s.data.toList.drop a) := by simp; omega
  have hR : (s.extract (a + spn isD (s.data.toList.drop a)) s.size).data.toList = (s.data.toList.drop a).drop (spn isD (s.data.toList.drop a)) := by
    rw [Lib.extract_to_end, List.drop_drop]
  have hv := (parse_val _ hXne (spn_all isD _)).1 (by unfold numOk at hn; simp at hn; exact hn.1)
  have hlead : lead ((s.data.toList.drop a).take (spn isD (s.data.toList.drop a))) = false := by unfold numOk at hn; simp at hn; exact hn.2
  have hlen : ((s.data.toList.drop a).take (spn isD (s.data.toList.drop a))).length = spn isD (s.data.toList.drop a) := by simp; omega
  rw [← hX] at hv hcr
  have hc := get0 hcr (by omega)
  have h48 : 1 < spn isD (s.data.toList.drop a) → ((c.toNat : Int) == 48) = false := by
    intro g
    unfold lead at hlead
    rw [← hX, hcr, List.head?_cons] at hlead
    have e2 : decide (1 < (c :: r).length) = true := by rw [← hcr, hX, hlen]; simpa using g
    rw [e2] at hlead
    simp at hlead ⊢
    intro e
    apply hlead
    have : c.toNat = 48 := by omega
    exact UInt8.toNat_inj.1 this
  cases hRr : (s.data.toList.drop a).drop (spn isD (s.data.toList.drop a)) with
  | nil =>
    have hr : (s.extract (a + spn isD (s.data.toList.drop a)) s.size).toList = [] := by rw [ByteArray.toList_eq, hR, hRr]
    by_cases g : 1 < spn isD (s.data.toList.drop a)
    · exact int_end2 C a s ins w h hs ha _ hv c.toNat (by omega) (by rw [hc]) g (h48 g) hr
    · exact int_end1 C a s ins w h hs ha _ hv (by omega) hr
  | cons d r2 =>
    have hj : 0 < (s.extract (a + spn isD (s.data.toList.drop a)) s.size).size := by rw [size_list, hR, hRr]; simp
    have hd := get0 (hR.trans hRr) hj
    rw [hRr] at hL
    have hLd : isL d.toNat = false := hL
    by_cases g : 1 < spn isD (s.data.toList.drop a)
    · exact int_ok2 C a s ins w h hs ha _ hv c.toNat (by omega) (by rw [hc]) d.toNat hj (by rw [hd]) g (h48 g) hLd
    · exact int_ok1 C a s ins w h hs ha _ hv d.toNat hj (by rw [hd]) (by omega) hLd

theorem int_bad (h : Sc w C s a ins) (hs : s.size ≤ 20000) (ha : a < s.size) (hG : Glob w) (hC2 : 2 < C) (hD : isD s[a].toNat = true)
    (hn : (numOk ((s.data.toList.drop a).take (spn isD (s.data.toList.drop a))) && !hdL ((s.data.toList.drop a).drop (spn isD (s.data.toList.drop a)))) = false) :
    Calls Tryd.prog 41 #[.pointer (some ⟨C, 0, none⟩)] w (Ends w C s 0 ⟨#[]⟩ 0 4 a ins) := by
  have hpos : 1 ≤ spn isD (s.data.toList.drop a) := by rw [drop_at s a ha, spn_cons, if_pos hD]; omega
  have hle : spn isD (s.data.toList.drop a) ≤ s.size - a := by have := spn_le isD (s.data.toList.drop a); simp at this; omega
  have hX := ext_list s a (spn isD (s.data.toList.drop a))
  have hXne : (s.data.toList.drop a).take (spn isD (s.data.toList.drop a)) ≠ [] := by
    intro e; have := congrArg List.length e; simp at this; omega
  obtain ⟨c, r, hcr⟩ := List.exists_cons_of_ne_nil hXne
  have hsz : (s.extract a (a + spn isD (s.data.toList.drop a))).size = spn isD (s.data.toList.drop a) := by simp; omega
  have hR : (s.extract (a + spn isD (s.data.toList.drop a)) s.size).data.toList = (s.data.toList.drop a).drop (spn isD (s.data.toList.drop a)) := by
    rw [Lib.extract_to_end, List.drop_drop]
  have hlen : ((s.data.toList.drop a).take (spn isD (s.data.toList.drop a))).length = spn isD (s.data.toList.drop a) := by simp; omega
  by_cases hval : val ((s.data.toList.drop a).take (spn isD (s.data.toList.drop a))) < 9223372036854775808
  · have hv := (parse_val _ hXne (spn_all isD _)).1 hval
    rw [← hX] at hv
    have hcr' := hcr
    rw [← hX] at hcr
    have hc := get0 hcr (by omega)
    cases hlead : lead ((s.data.toList.drop a).take (spn isD (s.data.toList.drop a))) with
    | true =>
      unfold lead at hlead
      rw [hlen, hcr', List.head?_cons] at hlead
      simp at hlead
      exact int_lead C a s ins w h hs ha _ hv c.toNat (by omega) (by rw [hc]) hlead.1 (by simp [hlead.2])
    | false =>
      have hnum : numOk ((s.data.toList.drop a).take (spn isD (s.data.toList.drop a))) = true := by unfold numOk; rw [hlead]; simpa using hval
      rw [hnum] at hn
      have hL : hdL ((s.data.toList.drop a).drop (spn isD (s.data.toList.drop a))) = true := by simpa using hn
      cases hRr : (s.data.toList.drop a).drop (spn isD (s.data.toList.drop a)) with
      | nil => rw [hRr] at hL; cases hL
      | cons d r2 =>
        have hj : 0 < (s.extract (a + spn isD (s.data.toList.drop a)) s.size).size := by rw [size_list, hR, hRr]; simp
        have hd := get0 (hR.trans hRr) hj
        rw [hRr] at hL
        have hLd : isL d.toNat = true := hL
        by_cases g : 1 < spn isD (s.data.toList.drop a)
        · refine int_letter2 C a s ins w h hs ha _ hv c.toNat (by omega) (by rw [hc]) d.toNat hj (by rw [hd]) g ?_ hLd
          unfold lead at hlead
          rw [hlen, hcr', List.head?_cons] at hlead
          simp [g] at hlead ⊢
          intro e
          apply hlead
          have : c.toNat = 48 := by omega
          exact UInt8.toNat_inj.1 this
        · exact int_letter1 C a s ins w h hs ha _ hv d.toNat hj (by rw [hd]) (by omega) hLd
  · have hv := (parse_val _ hXne (spn_all isD _)).2 hval
    rw [← hX] at hv
    exact int_range C a s ins w h hs ha hv hG hC2

theorem name_good (h : Sc w C s a ins) (hs : s.size ≤ 20000) (ha : a < s.size) (hn : ¬ 32 < spn isLD (s.data.toList.drop a)) :
    Calls Tryd.prog 39 #[.pointer (some ⟨C, 0, none⟩)] w (Ends w C s (kwKind ((s.data.toList.drop a).take (spn isLD (s.data.toList.drop a)))) (s.extract a (a + spn isLD (s.data.toList.drop a))) a 0 (a + spn isLD (s.data.toList.drop a)) (endB (kwKind ((s.data.toList.drop a).take (spn isLD (s.data.toList.drop a)))) ((s.data.toList.drop a).take (spn isLD (s.data.toList.drop a))))) := by
  have := name_short C a s ins w h hs (by omega) hn
  rw [ext_toList] at this
  exact this

theorem opK_data (k : Nat) : (opK k).data.toList = opArr.getD k [] := by unfold opK; simp
theorem rest_list (s : ByteArray) (a : Nat) : (s.extract a s.size).data.toList = s.data.toList.drop a := Lib.extract_to_end s a

theorem oper_good (h : Sc w C s a ins) (hs : s.size ≤ 20000) (ha : a < s.size) (hG : Glob w) (hC2 : 2 < C) (hn : opOf (s.data.toList.drop a) ≠ 0) :
    Calls Tryd.prog 44 #[.pointer (some ⟨C, 0, none⟩)] w (Ends w C s 4 (s.extract a (a + opOf (s.data.toList.drop a))) a 0 (a + opOf (s.data.toList.drop a)) (endB 4 (s.extract a (a + opOf (s.data.toList.drop a))).toList)) := by
  obtain ⟨j, hj, h1, h2, h3⟩ := op_hit _ hn
  have hle := opOf_le (s.data.toList.drop a)
  refine operator_hit C a j s ins w h hs ha hG hC2 hj (fun k hk => ?_) ?_ _ (by rw [size_list, opK_data, h3]) (by simp at hle; omega)
  · have := h2 k hk
    unfold NoOp Lib.hasPrefix
    rw [opK_data, rest_list]
    exact this
  · unfold Lib.hasPrefix
    rw [opK_data, rest_list]
    exact h1
theorem oper_bad (h : Sc w C s a ins) (ha : a < s.size) (hG : Glob w) (hC2 : 2 < C) (hn : opOf (s.data.toList.drop a) = 0) :
    Calls Tryd.prog 44 #[.pointer (some ⟨C, 0, none⟩)] w (Ends w C s 0 ⟨#[]⟩ 0 4 a ins) := by
  refine operator_none C a s ins w h ha hG hC2 (fun k hk => ?_)
  unfold NoOp Lib.hasPrefix
  rw [opK_data, rest_list]
  exact op_none _ hn k hk

theorem slashes (s : ByteArray) (a : Nat) (v : Bool) (h : decide ((s.data.toList.drop a).take 2 = [47, 47]) = v) : Lib.hasPrefix (s.extract a s.size).data.toList [47, 47] = v := by
  rw [rest_list, ← h, Bool.eq_iff_iff, decide_eq_true_iff]
  exact pre_iff _ _
end
end Go.Proofs.YtaalgkcbknlccaaDoor
