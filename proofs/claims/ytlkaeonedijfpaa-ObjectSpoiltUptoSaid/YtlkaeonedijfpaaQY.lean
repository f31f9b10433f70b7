/-
  The law ObjectSpoilt.
-/
import Derived.Test.YtlkaeonedijfpaaQX
set_option linter.all false
namespace Go.Proofs.Ytlkaeonedijfpaa
open Go.RowKit C
theorem spoil {c : UInt8} {t : Nat} (h0 : 0 < t) (h1 : t ≤ 255) : c ^^^ UInt8.ofNat t ≠ c ∧ bits BinOp.xor IntKind.u8 ((c.toNat : Nat) : Int) ((t : Nat) : Int) = (((c ^^^ UInt8.ofNat t).toNat : Nat) : Int) := by
  have hc := c.toNat_lt
  have e : (UInt8.ofNat t).toNat = t := by rw [UInt8.toNat_ofNat']; omega
  constructor
  · intro h
    have h2 := congrArg (fun x => c ^^^ x) h
    simp only [UInt8.xor_self, ← UInt8.xor_assoc, UInt8.zero_xor] at h2
    rw [h2] at e
    have : (0 : UInt8).toNat = 0 := rfl
    omega
  · rw [u8_xor_nat _ _ (by omega) (by omega), UInt8.toNat_xor, e]
theorem set_cell {V : World} {g j m : Nat} {v u : Value} (h : V.cell? ⟨g, m, none⟩ = some u) : (V.setCell ⟨g, j, none⟩ v).cell? ⟨g, m, none⟩ = some (if m = j then v else u) := by
  by_cases e : m = j
  · subst e
    rw [if_pos rfl]
    exact World.cell?_setCell_same _ _ _ h
  · rw [if_neg e, ← h]
    exact World.cell?_setCell_other _ _ _ _ (by intro e2; apply e; cases e2; rfl)
theorem OwnB.put {base : Nat} {w : World} {v : Value} {l : Bs} (h : OwnB base w v l) (i : Nat) (hi : i < l.length) : ∃ g cap, v = .slice (some ⟨g, 0, none⟩) l.length cap ∧ base ≤ g ∧ l.length ≤ cap ∧ cap ≤ maxLen ∧ Row 1 (ByAt w) (some ⟨g, 0, none⟩) l ∧ w.frozen? ⟨g, 0 + i, none⟩ = false := by
  obtain ⟨A, cap, rfl, hc, hm, hr⟩ := h.row
  rcases h.2 with ⟨e1, e2⟩ | ⟨g, cap, cur, hv, hb, hg, _, _, _, _⟩
  · omega
  · injection hv with h1 h2 h3
    subst h1
    refine ⟨g, _, rfl, hb, hc, hm, hr, ?_⟩
    simp [World.frozen?, hg]
theorem row_set {w : World} {g : Nat} {l : Bs} (h : Row 1 (ByAt w) (some ⟨g, 0, none⟩) l) {i : Nat} (hi : i < l.length) (c : UInt8) : Row 1 (ByAt (w.setCell ⟨g, 0 + i, none⟩ (u8v c))) (some ⟨g, 0, none⟩) (l.set i c) := by
  obtain ⟨g', o', hA, hh⟩ := h.at (by omega)
  injection hA with hA1
  injection hA1 with e1 e2
  subst e1
  subst e2
  refine .inr ⟨g, 0, rfl, fun j hj => ⟨?_, ?_⟩⟩
  · have := (hh i hi).lt; simpa using this
  · have hj' : j < l.length := by simpa using hj
    rw [set_cell (hh j hj').c0, List.getElem_set]
    by_cases e : i = j
    · subst e; rw [if_pos rfl, if_pos (by omega)]
    · rw [if_neg e, if_neg (by omega)]
set_option maxRecDepth 100000 in
set_option maxHeartbeats 8000000 in
theorem law_ObjectSpoilt (p : Pg) (A B D : Option Addr) (ca cb cd : Nat) (x t : Int) (w : World) (hp : PgAt w p A B D ca cb cd) (hb : Bk p) (hx : 0 ≤ x ∧ x ≤ 65535) (ht : 0 ≤ t ∧ t ≤ 255) :
    Calls Try.prog 10 #[pv p A B D ca cb cd, .int .u16 x, .int .u8 t] w fun e w' => e = .returned (.bool true) ∧ Below w.heap.size w w' := by
  have HW : Hid (∀ V, Calls Try.prog 11 #[] V fun e w' => e = .returned (.bool true) ∧ Below V.heap.size V w') := Lib.hid awake_any
  have HX := Lib.hid (heap_alloc_new w (oPg p A B D ca cb cd))
  have HB0 := Lib.hid (below1 w (oPg p A B D ca cb cd))
  have HV : Hid (∀ V, Below w.heap.size w V → Calls Try.prog 21 #[pv p A B D ca cb cd] V fun e w' => e = .returned (.bool (validB p)) ∧ Below V.heap.size V w') := Lib.hid fun V hV => rvalid_any p A B D ca cb cd V (hp.below hV)
  have HP := Lib.hid hp
  obtain ⟨X, rfl⟩ := Int.eq_ofNat_of_zero_le hx.1
  obtain ⟨T, rfl⟩ := Int.eq_ofNat_of_zero_le ht.1
  by_cases hv : validB p = true
  · by_cases hT : T = 0
    · subst hT
      rw [hv] at HV
      clear hv hp hb
      go_enter Try.func10, Try.ntmps10
      go_wp2_with fail
      refine (HW.out _).mono ?_
      rintro e w1 ⟨rfl, hb1⟩
      have HB1 := Lib.hid (bel_step HB0.out hb1)
      have HX1 := Lib.hid (blk_low HX.out hb1)
      clear hb1
      obtain ⟨⟨c0, c1, c2, c3⟩, _⟩ := cells4 HX1.out
      go_wp2_with fail
      refine (HV.out _ HB1.out).mono ?_
      rintro e w2 ⟨rfl, hb2⟩
      have HB2 := Lib.hid (bel_step HB1.out hb2)
      clear hb2 c0 c1 c2 c3
      go_wp2_with fail
      refine (HW.out _).mono ?_
      rintro e w3 ⟨rfl, hb3⟩
      have HB3 := Lib.hid (bel_step HB2.out hb3)
      clear hb3
      go_wp2
      go_ret
      exact ⟨rfl, HB3.out⟩
    · have hip := pg_ip hp hb
      have HE : Hid (∀ V A B D ca cb cd, PgAt V p A B D ca cb cd → Calls Try.prog 14 #[pv p A B D ca cb cd] V (RetB V (formE p) 0)) := Lib.hid fun V A B D ca cb cd h => oenc_yes p A B D ca cb cd V h hb hv
      have hL1 := form_len_le hip hb
      have hL8 : 8 ≤ (formE p).length := by
        have h1 : (formE p).length = (headF p).length + 4 := by unfold formE; rw [List.length_append]; rfl
        have h2 : (headF p).length = 4 + (pgE p).length := by unfold headF; rw [List.length_append]; rfl
        omega
      have hSP0 : ∀ L, formE p = L → ∀ i (hi : i < L.length) c, c ≠ L[i] → ans (L.set i c) = .form ∨ ans (L.set i c) = .sum := fun L hL i hi c hc => by subst hL; exact ans_spoilt hi hc
      obtain ⟨L, hL⟩ : ∃ L, formE p = L := ⟨_, rfl⟩
      have hSP := hSP0 L hL
      clear hSP0
      rw [hL] at HE hL1 hL8
      rw [hv] at HV
      have HSP := Lib.hid hSP
      have ht2 : (T : Int) ≠ 0 := by omega
      have hT2 : decide ((T : Int) = 0) = false := by simp; omega
      clear hv hp hip hb
      clear hSP
      clear hL
      go_enter Try.func10, Try.ntmps10
      go_wp2_with fail
      refine (HW.out _).mono ?_
      rintro e w1 ⟨rfl, hb1⟩
      have HB1 := Lib.hid (bel_step HB0.out hb1)
      have HX1 := Lib.hid (blk_low HX.out hb1)
      clear hb1
      obtain ⟨⟨c0, c1, c2, c3⟩, _⟩ := cells4 HX1.out
      go_wp2_with fail
      refine (HV.out _ HB1.out).mono ?_
      rintro e w2 ⟨rfl, hb2⟩
      have HB2 := Lib.hid (bel_step HB1.out hb2)
      have HX2 := Lib.hid (blk_low HX1.out hb2)
      clear hb2 c0 c1 c2 c3
      obtain ⟨⟨c0, c1, c2, c3⟩, _⟩ := cells4 HX2.out
      go_wp2_with fail
      refine (HE.out _ _ _ _ _ _ _ (HP.out.below HB2.out)).mono ?_
      rintro e w3 ⟨v3, rfl, ho3, hb3⟩
      obtain ⟨i, hi⟩ : ∃ i, X % L.length = i := ⟨_, rfl⟩
      have hil : i < L.length := by rw [← hi]; exact Nat.mod_lt _ (by omega)
      obtain ⟨g, k3, rfl, hge, hc3, hm3, hr3, hfz⟩ := ho3.put i hil
      obtain ⟨g', o', hA3, hh⟩ := hr3.at (by omega)
      injection hA3 with hA4
      injection hA4 with e1 e2
      subst e1
      subst e2
      have q0 := (hh i hil).c0
      rw [Nat.mul_one] at q0
      unfold u8v at q0
      rw [Nat.zero_add] at q0 hfz
      have HB3 := Lib.hid (bel_step HB2.out hb3)
      obtain ⟨c, hc⟩ : ∃ c, c = L[i] ^^^ UInt8.ofNat T := ⟨_, rfl⟩
      have hsp := spoil (c := L[i]) (t := T) (by omega) (by omega)
      rw [← hc] at hsp
      have HR4 := row_set hr3 hil c
      rw [Nat.zero_add] at HR4
      have hS := HSP.out i hil c hsp.1
      have hSl : (L.set i c).length = L.length := by simp
      obtain ⟨S, hSe⟩ : ∃ S, L.set i c = S := ⟨_, rfl⟩
      rw [hSe] at HR4 hS hSl
      have HB4 : Hid (Below w.heap.size w (w3.setCell ⟨g, i, none⟩ (u8v c))) := Lib.hid (HB3.out.setCell (p := ⟨g, i, none⟩) (by show w.heap.size ≤ g; have := HB2.out.size; omega) _)
      have HD := odec_any (w3.setCell ⟨g, i, none⟩ (u8v c)) (some ⟨g, 0, none⟩) S k3 (by omega) hm3 HR4 (by omega)
      rw [hSl] at HD
      have HDD := Lib.hid HD
      have hxb := hsp.2
      have HL8 := Lib.hid hL8
      have hL00 : ¬ (L.length : Int) = 0 := by omega
      have HSV := Lib.hid hS
      clear hge hh hr3 ho3 hb3 hc3 hm3 c0 c1 c2 c3 hsp HR4 hS hSl hSe HD hc
      go_wp2_with fail
      rcases HSV.out with hs | hs
      all_goals
        rw [hs] at HDD
        refine HDD.out.mono ?_
        rintro e w5 ⟨rfl, hb5⟩
        have HB5 := Lib.hid (bel_step HB4.out hb5)
        have HB6 := Lib.hid (bel_step HB5.out (below1 w5 zPg))
        clear hb5
        go_wp2
        go_ret
        exact ⟨rfl, HB6.out⟩
  · have hv2 : validB p = false := by simpa using hv
    rw [hv2] at HV
    clear hv hp hv2 hb
    go_enter Try.func10, Try.ntmps10
    go_wp2_with fail
    refine (HW.out _).mono ?_
    rintro e w1 ⟨rfl, hb1⟩
    have HB1 := Lib.hid (bel_step HB0.out hb1)
    have HX1 := Lib.hid (blk_low HX.out hb1)
    clear hb1
    obtain ⟨⟨c0, c1, c2, c3⟩, _⟩ := cells4 HX1.out
    go_wp2_with fail
    refine (HV.out _ HB1.out).mono ?_
    rintro e w2 ⟨rfl, hb2⟩
    have HB2 := Lib.hid (bel_step HB1.out hb2)
    clear hb2 c0 c1 c2 c3
    go_wp2_with fail
    refine (HW.out _).mono ?_
    rintro e w3 ⟨rfl, hb3⟩
    have HB3 := Lib.hid (bel_step HB2.out hb3)
    clear hb3
    go_wp2
    go_ret
    exact ⟨rfl, HB3.out⟩
end Go.Proofs.Ytlkaeonedijfpaa
