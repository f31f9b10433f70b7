/-
  The law CodeTexts.
-/
import Derived.Test.YtekfhgldebhigaaDoorTS
import Derived.Test.YtekfhgldebhigaaDoorTI
import Derived.Test.YtekfhgldebhigaaDoorYF
set_option linter.all false
namespace Go.Proofs.YtekfhgldebhigaaDoor
open Go.RowKit C
theorem mem_le_sum {α : Type} {f : α → Nat} {l : List α} {x : α} (h : x ∈ l) : f x ≤ (l.map f).sum := by
  induction l with
  | nil => cases h
  | cons a l ih =>
    simp only [List.map_cons, List.sum_cons]
    rcases List.mem_cons.1 h with rfl | h
    · omega
    · have := ih h; omega
theorem len_le_sum {α : Type} {f : α → Nat} {l : List α} (h : ∀ x ∈ l, 1 ≤ f x) : l.length ≤ (l.map f).sum := by
  induction l with
  | nil => simp
  | cons a l ih =>
    simp only [List.map_cons, List.sum_cons, List.length_cons]
    have h1 := h a List.mem_cons_self
    have h2 := ih fun x hx => h x (List.mem_cons_of_mem _ hx)
    omega
theorem Bk.sz {q : Pg} (h : Bk q) : Sz q := by
  obtain ⟨hb, hl⟩ := h
  have h1 := len_le_sum (l := q.funcs) (f := fun f => f.name.size + f.code.length + 1) (fun x _ => by simp)
  have h2 := len_le_sum (l := q.globals) (f := fun g => g.name.size + 1) (fun x _ => by simp)
  refine ⟨by omega, by omega, by omega, fun f hf => ?_, fun l hl => ?_⟩
  · have := mem_le_sum (f := fun f : Fc => f.name.size + f.code.length + 1) hf
    omega
  · have := mem_le_sum (f := fun l : List Int => l.length) hl
    omega
theorem flat_sum {α : Type} {f : α → Bs} {g : α → Nat} {l : List α} (h : ∀ x, (f x).length ≤ g x) : (l.flatMap f).length ≤ (l.map g).sum := by
  induction l with
  | nil => simp
  | cons a l ih => simp only [List.flatMap_cons, List.length_append, List.map_cons, List.sum_cons]; have := h a; omega
theorem Bk.names {q : Pg} (h : Bk q) : (namesT q).length ≤ 2000000 := by
  obtain ⟨hb, hl⟩ := h
  unfold namesT
  rw [List.length_append]
  have h1 := flat_sum (f := glN) (g := fun g : Gl => g.name.size + 1) (l := q.globals) (fun x => by show x.name.size ≤ _; omega)
  have h2 := flat_sum (f := fnN) (g := fun f : Fc => f.name.size + f.code.length + 1) (l := q.funcs) (fun x => by show x.name.size ≤ _; omega)
  omega

set_option maxRecDepth 100000 in
set_option maxHeartbeats 16000000 in
theorem law_CodeTexts (p : Pg) (A B D : Option Addr) (ca cb cd : Nat) (q : Pg) (A' B' D' : Option Addr) (ca' cb' cd' : Nat) (w : World) (hp : PgAt w p A B D ca cb cd) (hq : PgAt w q A' B' D' ca' cb' cd') (hk : Bk p) (hk' : Bk q) (hT : Tb w) :
    Calls Tryd.prog 4 #[pv p A B D ca cb cd, pv q A' B' D' ca' cb' cd'] w fun e w' => e = .returned (.bool true) ∧ Below w.heap.size w w' := by
  have HPL : Hid (∀ V, Below w.heap.size w V → Calls Tryd.prog 9 #[pv p A B D ca cb cd] V _) := Lib.hid fun V hV => plain_any p A B D ca cb cd V (hp.below hV) hk.sz hk.names
  have HQL : Hid (∀ V, Below w.heap.size w V → Calls Tryd.prog 9 #[pv q A' B' D' ca' cb' cd'] V _) := Lib.hid fun V hV => plain_any q A' B' D' ca' cb' cd' V (hq.below hV) hk'.sz hk'.names
  have HVP : Hid (∀ V, Below w.heap.size w V → Calls Tryd.prog 6 #[pv p A B D ca cb cd] V fun e w' => e = .returned (.bool (validB p)) ∧ Below V.heap.size V w') := Lib.hid fun V hV => rvalid_any p A B D ca cb cd V (hp.below hV)
  have HVQ : Hid (∀ V, Below w.heap.size w V → Calls Tryd.prog 6 #[pv q A' B' D' ca' cb' cd'] V fun e w' => e = .returned (.bool (validB q)) ∧ Below V.heap.size V w') := Lib.hid fun V hV => rvalid_any q A' B' D' ca' cb' cd' V (hq.below hV)
  have HW : Hid (∀ V, Calls Tryd.prog 5 #[] V fun e w' => e = .returned (.bool true) ∧ Below V.heap.size V w') := Lib.hid awake_any
  have HTP : Hid (validB p = true → ∀ V, Below w.heap.size w V → Calls Tryd.prog 7 #[pv p A B D ca cb cd] V fun e w' => e = .returned (.string (txt (textT p))) ∧ Below V.heap.size V w') := Lib.hid fun hb V hV => ctext_any p A B D ca cb cd V (hp.below hV) hk.z (valid_ops hb) hk.code hk.ly (hT.step hV)
  have HTQ : Hid (validB q = true → ∀ V, Below w.heap.size w V → Calls Tryd.prog 7 #[pv q A' B' D' ca' cb' cd'] V fun e w' => e = .returned (.string (txt (textT q))) ∧ Below V.heap.size V w') := Lib.hid fun hb V hV => ctext_any q A' B' D' ca' cb' cd' V (hq.below hV) hk'.z (valid_ops hb) hk'.code hk'.ly (hT.step hV)
  have HA := Lib.hid (And.intro (heap2a w (pbO p A B D ca cb cd) (pbO q A' B' D' ca' cb' cd')) (heap2 w (pbO p A B D ca cb cd) (pbO q A' B' D' ca' cb' cd')))
  have HB0 := Lib.hid (below2 w (pbO p A B D ca cb cd) (pbO q A' B' D' ca' cb' cd'))
  have hs0 : ((w.alloc (pbO p A B D ca cb cd)).alloc (pbO q A' B' D' ca' cb' cd')).heap.size = w.heap.size + 2 := by simp
  clear hp hq hk hk' hT
  obtain ⟨b1, hb1⟩ : ∃ b, namesB p = b := ⟨_, rfl⟩
  obtain ⟨b2, hb2⟩ : ∃ b, namesB q = b := ⟨_, rfl⟩
  have HB1 := Lib.hid hb1
  have HB2 := Lib.hid hb2
  rw [hb1] at HPL
  rw [hb2] at HQL
  clear hb1 hb2
  obtain ⟨⟨x0, x1, x2, x3⟩, -⟩ := cells4 HA.out.1
  go_enter Tryd.func4, Tryd.ntmps4
  go_wp2_with fail
  refine (HPL.out _ HB0.out).mono ?_
  rintro e w1 ⟨A1, B1, D1, ca1, cb1, cd1, rfl, hP1, hw1⟩
  clear x0 x1 x2 x3
  have hBp := below1 w1 (pbO (plainP p) A1 B1 D1 ca1 cb1 cd1)
  have HS1 := Lib.hid (show w.heap.size + 2 ≤ w1.heap.size by have := hw1.size; rw [hs0] at this; exact this)
  have HW1 := Lib.hid (HB0.out.trans ((hw1.mono (by rw [hs0]; omega)).trans (hBp.mono (by have := HS1.out; omega))))
  have HP1 := Lib.hid (hP1.below hBp)
  have HAP := Lib.hid (And.intro ((hBp.block w.heap.size (by have := HS1.out; omega)).trans ((hw1.block w.heap.size (by rw [hs0]; omega)).trans HA.out.1)) (And.intro ((hBp.block (w.heap.size + 1) (by have := HS1.out; omega)).trans ((hw1.block (w.heap.size + 1) (by rw [hs0]; omega)).trans HA.out.2)) (heap_alloc_new w1 (pbO (plainP p) A1 B1 D1 ca1 cb1 cd1))))
  clear hP1 hw1 hBp
  have HL1 := Lib.hid (show (w1.alloc (pbO (plainP p) A1 B1 D1 ca1 cb1 cd1)).heap.size = w1.heap.size + 1 by simp)
  obtain ⟨⟨x0, x1, x2, x3⟩, -⟩ := cells4 HAP.out.2.1
  go_wp2_with fail
  refine (HQL.out _ HW1.out).mono ?_
  rintro e w2 ⟨A2, B2, D2, ca2, cb2, cd2, rfl, hP2, hw2⟩
  clear x0 x1 x2 x3
  have hBq := below1 w2 (pbO (plainP q) A2 B2 D2 ca2 cb2 cd2)
  have HS2 := Lib.hid (show w1.heap.size + 1 ≤ w2.heap.size by have := hw2.size; rw [HL1.out] at this; exact this)
  have HL2 := Lib.hid (show (w2.alloc (pbO (plainP q) A2 B2 D2 ca2 cb2 cd2)).heap.size = w2.heap.size + 1 by simp)
  have HW2 := Lib.hid (HW1.out.trans ((hw2.mono (by have := HS1.out; rw [HL1.out]; omega)).trans (hBq.mono (by have := HS1.out; have := HS2.out; omega))))
  have HPP := Lib.hid ((HP1.out.below hw2).below hBq)
  have HPQ := Lib.hid (hP2.below hBq)
  have go1 : ∀ {k : Nat} {o : Obj}, k < w1.heap.size + 1 → (w1.alloc (pbO (plainP p) A1 B1 D1 ca1 cb1 cd1)).heap[k]? = some o → (w2.alloc (pbO (plainP q) A2 B2 D2 ca2 cb2 cd2)).heap[k]? = some o := fun {k o} hk h => (hBq.block k (by have := HS2.out; omega)).trans ((hw2.block k (by rw [HL1.out]; exact hk)).trans h)
  have HAQ := Lib.hid (And.intro (go1 (by have := HS1.out; omega) HAP.out.1) (And.intro (go1 (by have := HS1.out; omega) HAP.out.2.1) (And.intro (go1 (by omega) HAP.out.2.2) (heap_alloc_new w2 (pbO (plainP q) A2 B2 D2 ca2 cb2 cd2)))))
  have HBX : Hid (∀ V, Below (w2.heap.size + 1) (w2.alloc (pbO (plainP q) A2 B2 D2 ca2 cb2 cd2)) V → V.heap[w.heap.size]? = some (pbO p A B D ca cb cd) ∧ V.heap[w.heap.size + 1]? = some (pbO q A' B' D' ca' cb' cd') ∧ V.heap[w1.heap.size]? = some (pbO (plainP p) A1 B1 D1 ca1 cb1 cd1) ∧ V.heap[w2.heap.size]? = some (pbO (plainP q) A2 B2 D2 ca2 cb2 cd2) ∧ Below w.heap.size w V) := Lib.hid fun V hV => by
    obtain ⟨a0, a1, a2, a3⟩ := HAQ.out
    have h1 := HS1.out
    have h2 := HS2.out
    exact ⟨(hV.block _ (by omega)).trans a0, (hV.block _ (by omega)).trans a1, (hV.block _ (by omega)).trans a2, (hV.block _ (by omega)).trans a3, HW2.out.trans (hV.mono (by omega))⟩
  have HEQ : Hid (∀ V, Below (w2.heap.size + 1) (w2.alloc (pbO (plainP q) A2 B2 D2 ca2 cb2 cd2)) V → Calls Tryd.prog 10 #[pv (plainP p) A1 B1 D1 ca1 cb1 cd1, pv (plainP q) A2 B2 D2 ca2 cb2 cd2] V fun e w' => e = .returned (.bool (decide (plainP p = plainP q))) ∧ Below V.heap.size V w') := Lib.hid fun V hV => by
    have hV2 : Below (w2.alloc (pbO (plainP q) A2 B2 D2 ca2 cb2 cd2)).heap.size (w2.alloc (pbO (plainP q) A2 B2 D2 ca2 cb2 cd2)) V := by rw [HL2.out]; exact hV
    exact requal_any _ A1 B1 D1 ca1 cb1 cd1 _ A2 B2 D2 ca2 cb2 cd2 V (HPP.out.below hV2) (HPQ.out.below hV2)
  have HR2 : Hid (Below (w2.heap.size + 1) (w2.alloc (pbO (plainP q) A2 B2 D2 ca2 cb2 cd2)) (w2.alloc (pbO (plainP q) A2 B2 D2 ca2 cb2 cd2))) := Lib.hid (Below.refl _ _)
  have HSV : Hid (∀ V, Below (w2.heap.size + 1) (w2.alloc (pbO (plainP q) A2 B2 D2 ca2 cb2 cd2)) V → w2.heap.size + 1 ≤ V.heap.size) := Lib.hid fun V hV => by have := hV.size; rw [HL2.out] at this; exact this
  clear hP2 hw2 hBq go1 hs0
  go_wp2_with fail
  refine (HW.out _).mono ?_
  rintro e w3 ⟨rfl, hw3⟩
  have HX3 : Hid (Below (w2.heap.size + 1) (w2.alloc (pbO (plainP q) A2 B2 D2 ca2 cb2 cd2)) w3) := Lib.hid (HR2.out.trans (hw3.mono (HSV.out _ HR2.out)))
  clear hw3
  cases b1 with
  | false =>
    go_wp2_with fail
    refine (HW.out _).mono ?_
    rintro e wz ⟨rfl, hwz⟩
    go_wp2
    go_ret
    exact ⟨rfl, (HBX.out _ HX3.out).2.2.2.2.trans (hwz.mono (HBX.out _ HX3.out).2.2.2.2.size)⟩
  | true =>
    cases b2 with
    | false =>
      go_wp2_with fail
      refine (HW.out _).mono ?_
      rintro e wz ⟨rfl, hwz⟩
      go_wp2
      go_ret
      exact ⟨rfl, (HBX.out _ HX3.out).2.2.2.2.trans (hwz.mono (HBX.out _ HX3.out).2.2.2.2.size)⟩
    | true =>
      obtain ⟨⟨x0, x1, x2, x3⟩, -⟩ := cells4 (HBX.out _ HX3.out).1
      obtain ⟨v1, hv1⟩ : ∃ b, validB p = b := ⟨_, rfl⟩
      obtain ⟨v2, hv2⟩ : ∃ b, validB q = b := ⟨_, rfl⟩
      have HV1 := Lib.hid hv1
      have HV2 := Lib.hid hv2
      rw [hv1] at HVP
      rw [hv2] at HVQ
      clear hv1 hv2
      go_wp2_with fail
      refine (HVP.out _ (HBX.out _ HX3.out).2.2.2.2).mono ?_
      rintro e w4 ⟨rfl, hw4⟩
      have HX4 : Hid (Below (w2.heap.size + 1) (w2.alloc (pbO (plainP q) A2 B2 D2 ca2 cb2 cd2)) w4) := Lib.hid (HX3.out.trans (hw4.mono (HSV.out _ HX3.out)))
      clear hw4 x0 x1 x2 x3
      cases v1 with
      | false =>
        go_wp2_with fail
        refine (HW.out _).mono ?_
        rintro e wz ⟨rfl, hwz⟩
        go_wp2
        go_ret
        exact ⟨rfl, (HBX.out _ HX4.out).2.2.2.2.trans (hwz.mono (HBX.out _ HX4.out).2.2.2.2.size)⟩
      | true =>
        obtain ⟨⟨x0, x1, x2, x3⟩, -⟩ := cells4 (HBX.out _ HX4.out).2.1
        go_wp2_with fail
        refine (HVQ.out _ (HBX.out _ HX4.out).2.2.2.2).mono ?_
        rintro e w5 ⟨rfl, hw5⟩
        have HX5 : Hid (Below (w2.heap.size + 1) (w2.alloc (pbO (plainP q) A2 B2 D2 ca2 cb2 cd2)) w5) := Lib.hid (HX4.out.trans (hw5.mono (HSV.out _ HX4.out)))
        clear hw5 x0 x1 x2 x3
        cases v2 with
        | false =>
          go_wp2_with fail
          refine (HW.out _).mono ?_
          rintro e wz ⟨rfl, hwz⟩
          go_wp2
          go_ret
          exact ⟨rfl, (HBX.out _ HX5.out).2.2.2.2.trans (hwz.mono (HBX.out _ HX5.out).2.2.2.2.size)⟩
        | true =>
          obtain ⟨d1, hd1⟩ : ∃ d, decide (plainP p = plainP q) = d := ⟨_, rfl⟩
          obtain ⟨T1, hT1⟩ : ∃ T, txt (textT p) = T := ⟨_, rfl⟩
          obtain ⟨T2, hT2⟩ : ∃ T, txt (textT q) = T := ⟨_, rfl⟩
          have HD : Hid ((T1.toList == T2.toList) = d1) := Lib.hid (by
            have h1 := text_iff HV1.out HV2.out ((names_iff p).1 HB1.out) ((names_iff q).1 HB2.out)
            rw [← hd1, ← hT1, ← hT2, ByteArray.toList_eq, ByteArray.toList_eq]
            show (textT p == textT q) = _
            by_cases h3 : plainP p = plainP q
            · rw [decide_eq_true h3]
              exact beq_iff_eq.2 (h1.2 h3)
            · rw [decide_eq_false h3]
              exact beq_eq_false_iff_ne.2 (fun e => h3 (h1.1 e)))
          have HT1 : Hid (∀ V, Below w.heap.size w V → Calls Tryd.prog 7 #[pv p A B D ca cb cd] V fun e w' => e = .returned (.string T1) ∧ Below V.heap.size V w') := Lib.hid (by have := HTP.out HV1.out; rw [hT1] at this; exact this)
          have HT2 : Hid (∀ V, Below w.heap.size w V → Calls Tryd.prog 7 #[pv q A' B' D' ca' cb' cd'] V fun e w' => e = .returned (.string T2) ∧ Below V.heap.size V w') := Lib.hid (by have := HTQ.out HV2.out; rw [hT2] at this; exact this)
          rw [hd1] at HEQ
          have hdd := HD.out
          clear hd1 hT1 hT2 HTP HTQ
          go_wp2_with fail
          refine wp_region_class (fun V => Below (w2.heap.size + 1) (w2.alloc (pbO (plainP q) A2 B2 D2 ca2 cb2 cd2)) V) (by kernel_rfl) (by kernel_rfl) (Below.drew HX5.out) ?_
          go_big_quiet_want
          refine quiet_intro (pv p A B D ca cb cd) (fun V hV => ?_) ?_
          · obtain ⟨⟨y0, y1, y2, y3⟩, -⟩ := cells4 (HBX.out _ hV).1
            go_simp
          try simp only [Act.put, List.setIfInBounds_toArray, List.set_cons_zero, List.set_cons_succ]
          go_big_quiet_on
          go_big_quiet_want
          refine quiet_intro (.string T1) (fun V hV => ?_) ?_
          · have hVB := Lib.hid hV
            go_simp
            refine (HT1.out V (HBX.out _ hVB.out).2.2.2.2).mono ?_
            rintro e V' ⟨rfl, hbb⟩
            exact ⟨rfl, hVB.out.trans (hbb.mono (HSV.out _ hVB.out))⟩
          try simp only [Act.put, List.setIfInBounds_toArray, List.set_cons_zero, List.set_cons_succ]
          go_big_quiet_on
          go_big_quiet_want
          refine quiet_intro (pv q A' B' D' ca' cb' cd') (fun V hV => ?_) ?_
          · obtain ⟨⟨y0, y1, y2, y3⟩, -⟩ := cells4 (HBX.out _ hV).2.1
            go_simp
          try simp only [Act.put, List.setIfInBounds_toArray, List.set_cons_zero, List.set_cons_succ]
          go_big_quiet_on
          go_big_quiet_want
          refine quiet_intro (.string T2) (fun V hV => ?_) ?_
          · have hVB := Lib.hid hV
            go_simp
            refine (HT2.out V (HBX.out _ hVB.out).2.2.2.2).mono ?_
            rintro e V' ⟨rfl, hbb⟩
            exact ⟨rfl, hVB.out.trans (hbb.mono (HSV.out _ hVB.out))⟩
          try simp only [Act.put, List.setIfInBounds_toArray, List.set_cons_zero, List.set_cons_succ]
          go_big_quiet_on
          go_big_quiet_want
          refine quiet_intro (.bool d1) (fun V hV => ?_) ?_
          · clear hV
            go_simp
          try simp only [Act.put, List.setIfInBounds_toArray, List.set_cons_zero, List.set_cons_succ]
          go_big_quiet_on
          go_big_quiet_want
          refine quiet_intro (pv (plainP p) A1 B1 D1 ca1 cb1 cd1) (fun V hV => ?_) ?_
          · obtain ⟨⟨y0, y1, y2, y3⟩, -⟩ := cells4 (HBX.out _ hV).2.2.1
            go_simp
          try simp only [Act.put, List.setIfInBounds_toArray, List.set_cons_zero, List.set_cons_succ]
          go_big_quiet_on
          go_big_quiet_want
          refine quiet_intro (pv (plainP q) A2 B2 D2 ca2 cb2 cd2) (fun V hV => ?_) ?_
          · obtain ⟨⟨y0, y1, y2, y3⟩, -⟩ := cells4 (HBX.out _ hV).2.2.2.1
            go_simp
          try simp only [Act.put, List.setIfInBounds_toArray, List.set_cons_zero, List.set_cons_succ]
          go_big_quiet_on
          go_big_quiet_want
          refine quiet_intro (.bool d1) (fun V hV => ?_) ?_
          · have hVB := Lib.hid hV
            go_simp
            refine (HEQ.out _ hVB.out).mono ?_
            rintro e V' ⟨rfl, hbb⟩
            exact ⟨rfl, hVB.out.trans (hbb.mono (HSV.out _ hVB.out))⟩
          try simp only [Act.put, List.setIfInBounds_toArray, List.set_cons_zero, List.set_cons_succ]
          go_big_quiet_on
          go_big_quiet_want
          refine quiet_intro (.bool true) (fun V hV => ?_) ?_
          · clear hV
            go_simp
          try simp only [Act.put, List.setIfInBounds_toArray, List.set_cons_zero, List.set_cons_succ]
          go_big_quiet_on
          go_big_quiet_want
          go_big_quiet_op
          go_big_quiet_on
          refine wpQuiet_nil ?_
          intro W hW
          have hb := (HBX.out _ hW).2.2.2.2
          clear hW
          go_wp2
          go_ret
          exact ⟨rfl, hb⟩
end Go.Proofs.YtekfhgldebhigaaDoor
