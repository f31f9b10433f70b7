/-
  The laws ObjectSum, ObjectEncode.
-/
import Derived.Test.YtlkaeonedijfpaaQS
set_option linter.all false
namespace Go.Proofs.Ytlkaeonedijfpaa
open Go.RowKit C
theorem bel_step {w V W : World} (h : Below w.heap.size w V) (hb : Below V.heap.size V W) : Below w.heap.size w W := h.trans (hb.mono h.size)
set_option maxRecDepth 100000 in
set_option maxHeartbeats 4000000 in
theorem law_ObjectSum (A : Option Addr) (l : Bs) (cap : Nat) (w : World) (hm : l.length ≤ maxLen) (hr : Row 1 (ByAt w) A l) :
    Calls Try.prog 3 #[.slice A l.length cap] w fun e w' => e = .returned (.bool true) ∧ Below w.heap.size w w' := by
  obtain ⟨x, hx⟩ : ∃ x : Int, ((sumF l).toNat : Int) = x := ⟨_, rfl⟩
  unfold maxLen at hm
  have HS : Hid (∀ V, Below w.heap.size w V → Calls Try.prog 12 #[.slice A l.length cap] V fun e w' => e = .returned (.int .u32 x) ∧ V = w') := Lib.hid fun V hV => by
    have := osum_any A l cap V (by omega) (hr.imp fun x g o q => q.below hV); rw [hx] at this; exact this
  have HQ : Hid (∀ V, Below w.heap.size w V → Calls Try.prog 13 #[.slice A l.length cap] V fun e w' => e = .returned (.int .u32 x) ∧ V = w') := Lib.hid fun V hV => by
    have := qsum_any A l cap V (by omega) (hr.imp fun x g o q => q.below hV); rw [hx] at this; exact this
  have HW : Hid (∀ V, Calls Try.prog 11 #[] V fun e w' => e = .returned (.bool true) ∧ Below V.heap.size V w') := Lib.hid awake_any
  have HD := Lib.hid (Below.drew (Below.refl w.heap.size w))
  clear hx hr
  go_enter Try.func3, Try.ntmps3
  go_wp2_with fail
  refine (HW.out _).mono ?_
  rintro e w1 ⟨rfl, hb1⟩
  have HB1 := Lib.hid hb1
  clear hb1
  go_wp2_with fail
  refine (HS.out _ HB1.out).mono ?_
  rintro e w2 ⟨rfl, rfl⟩
  go_wp2_with fail
  refine (HQ.out _ HB1.out).mono ?_
  rintro e w2 ⟨rfl, rfl⟩
  go_wp2
  go_ret
  exact ⟨rfl, HB1.out⟩
abbrev oPg (p : Pg) (A B D : Option Addr) (ca cb cd : Nat) : Obj := .cells (pb p A B D ca cb cd) 31 (0, 0)
set_option maxRecDepth 100000 in
set_option maxHeartbeats 4000000 in
theorem law_ObjectEncode (p : Pg) (A B D : Option Addr) (ca cb cd : Nat) (w : World) (hp : PgAt w p A B D ca cb cd) (hb : Bk p) :
    Calls Try.prog 4 #[pv p A B D ca cb cd] w fun e w' => e = .returned (.bool true) ∧ Below w.heap.size w w' := by
  obtain ⟨L, n, hE, hQ⟩ : ∃ L n, Hid (∀ V, Below w.heap.size w V → Calls Try.prog 14 #[pv p A B D ca cb cd] V (RetB V L n)) ∧ Hid (∀ V, Below w.heap.size w V → Calls Try.prog 15 #[pv p A B D ca cb cd] V (RetB V L n)) := by
    by_cases hv : validB p = true
    · exact ⟨_, _, Lib.hid fun V hV => oenc_yes p A B D ca cb cd V (hp.below hV) hb hv, Lib.hid fun V hV => qenc_yes p A B D ca cb cd V (hp.below hV) hb hv⟩
    · have hv2 : validB p = false := by simpa using hv
      exact ⟨_, _, Lib.hid fun V hV => oenc_no p A B D ca cb cd V (hp.below hV) hv2, Lib.hid fun V hV => qenc_no p A B D ca cb cd V (hp.below hV) hv2⟩
  have HX := Lib.hid (heap_alloc_new w (oPg p A B D ca cb cd))
  have HB0 := Lib.hid (below1 w (oPg p A B D ca cb cd))
  have HW : Hid (∀ V, Calls Try.prog 11 #[] V fun e w' => e = .returned (.bool true) ∧ Below V.heap.size V w') := Lib.hid awake_any
  clear hp hb
  go_enter Try.func4, Try.ntmps4
  go_wp2_with fail
  refine (HW.out _).mono ?_
  rintro e w1 ⟨rfl, hb1⟩
  have HB1 := Lib.hid (bel_step HB0.out hb1)
  have HX1 := Lib.hid ((hb1.block w.heap.size (by simp)).trans HX.out)
  clear hb1
  obtain ⟨⟨c0, c1, c2, c3⟩, _⟩ := cells4 HX1.out
  go_wp2_with fail
  refine (hE.out _ HB1.out).mono ?_
  rintro e w2 ⟨v2, rfl, ho2, hb2⟩
  obtain ⟨A2, k2, rfl, hc2, hm2, hr2⟩ := ho2.row
  have HB2 := Lib.hid (bel_step HB1.out hb2)
  have HX2 := Lib.hid ((hb2.block w.heap.size (by have := (Array.getElem?_eq_some_iff.1 HX1.out).1; omega)).trans HX1.out)
  have HR2 := Lib.hid hr2
  clear hb2 ho2 hr2 hc2 hm2 c0 c1 c2 c3
  obtain ⟨⟨c0, c1, c2, c3⟩, _⟩ := cells4 HX2.out
  go_wp2_with fail
  refine (hQ.out _ HB2.out).mono ?_
  rintro e w3 ⟨v3, rfl, ho3, hb3⟩
  obtain ⟨A3, k3, rfl, hc3, hm3, hr3⟩ := ho3.row
  have HB3 := Lib.hid (bel_step HB2.out hb3)
  have H3 := same_any w3 A2 A3 L L k2 k3 (HR2.out.imp fun x g o q => q.below hb3) hr3
  rw [decide_eq_true rfl] at H3
  have HS := Lib.hid H3
  clear hb3 ho3 hr3 hc3 hm3 c0 c1 c2 c3 H3
  go_wp2_with fail
  refine HS.out.mono ?_
  rintro e w4 ⟨rfl, rfl⟩
  go_wp2
  go_ret
  exact ⟨rfl, HB3.out⟩
end Go.Proofs.Ytlkaeonedijfpaa
