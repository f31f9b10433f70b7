/-
  The walk of the specification's Name.
-/
import Derived.Test.YticbcnhbpbaocaaGreatDoorWA
set_option linter.all false
namespace Go.Proofs.YticbcnhbpbaocaaGreatDoor
open Go.RowKit M

theorem hdL_of {s : ByteArray} (h : 0 < s.size) : hdL s.data.toList = isL s[0].toNat := by
  obtain ⟨⟨l⟩⟩ := s
  cases l with
  | nil => simp [ByteArray.size] at h
  | cons c r => rfl
theorem all_ld {s : ByteArray} (h : ∀ j (hj : j < s.size), isLD s[j].toNat = true) : s.data.toList.all (fun c => isLD c.toNat) = true := by
  rw [List.all_eq_true]
  intro c hc
  obtain ⟨j, hj, rfl⟩ := List.getElem_of_mem hc
  exact h j hj
theorem not_ld {s : ByteArray} {j : Nat} (hj : j < s.size) (h : isLD s[j].toNat = false) : s.data.toList.all (fun c => isLD c.toNat) = false := by
  rw [List.all_eq_false]
  exact ⟨s[j], List.getElem_mem (l := s.data.toList) hj, by rw [h]; simp⟩
set_option maxRecDepth 100000 in
set_option maxHeartbeats 2000000 in
theorem rname_any (s : ByteArray) (w : World) (hm : s.size ≤ maxLen) : Calls Tryz.prog 45 #[.string s] w fun e w' => e = .returned (.bool (nmB s.data.toList)) ∧ w = w' := by
  unfold maxLen at hm
  obtain ⟨v, hv⟩ : ∃ v, nmB s.data.toList = v := ⟨_, rfl⟩
  rw [hv]
  by_cases h0 : s.size = 0
  · have hv' : v = false := by
      rw [← hv]
      have : s.data.toList = [] := List.eq_nil_of_length_eq_zero h0
      rw [this]; rfl
    subst hv'
    have e0 : s.toList = [] := by rw [ByteArray.toList_eq]; exact List.eq_nil_of_length_eq_zero h0
    clear hv
    go_enter Tryz.func45, Tryz.ntmps45
    go_wp2
    go_ret
    exact ⟨rfl, rfl⟩
  · have hs0 : 0 < s.size := by omega
    have e0 : (s.toList == []) = false := by rw [ByteArray.toList_eq]; cases hl : s.data.toList with
      | nil => exact absurd (congrArg List.length hl) h0
      | cons _ _ => rfl
    have e1 : ¬ s.toList = [] := by simpa using e0
    have e2 : s.toList.isEmpty = false := by rw [ByteArray.toList_eq]; cases hl : s.data.toList with
      | nil => exact absurd (congrArg List.length hl) h0
      | cons _ _ => rfl
    have hs1 : (0 : Int) < (s.size : Int) := by omega
    by_cases h32 : 32 < s.size
    · have hv' : v = false := by
        have hd : decide (s.data.toList.length ≤ 32) = false := decide_eq_false (by show ¬ s.size ≤ 32; omega)
        rw [← hv]; unfold nmB
        rw [hd]; rfl
      subst hv'
      have h32' : (32 : Int) < (s.size : Int) := by omega
      clear hv
      go_enter Tryz.func45, Tryz.ntmps45
      go_wp2
      go_ret
      exact ⟨rfl, rfl⟩
    · have h32' : ¬ (32 : Int) < (s.size : Int) := by omega
      have h32'' : s.size ≤ 32 := by omega
      have hln : decide (s.data.toList.length ≤ 32) = true := by show decide (s.size ≤ 32) = true; simpa using h32''
      obtain ⟨bL, hbL⟩ : ∃ b, isL s[0].toNat = b := ⟨_, rfl⟩
      obtain ⟨bK, hbK⟩ : ∃ b, kw s.toList = b := ⟨_, rfl⟩
      have hbK' : kw s.data.toList = bK := by rw [← ByteArray.toList_eq]; exact hbK
      have HL : Hid (∀ wz, Calls Tryz.prog 64 #[.int .u8 (s[0].toNat : Int)] wz fun e w' => e = .returned (.bool bL) ∧ wz = w') := Lib.hid fun wz => hbL ▸ rletter_any _ wz
      have HK : Hid (∀ wz, Calls Tryz.prog 65 #[.string s] wz fun e w' => e = .returned (.bool bK) ∧ wz = w') := Lib.hid fun wz => hbK ▸ rkeyword_any s wz
      have hvv : v = (bL && !bK && s.data.toList.all (fun c => isLD c.toNat)) := by
        rw [← hv]; unfold nmB; rw [hln, hdL_of hs0, hbL, hbK']; simp
      have HV := Lib.hid hvv
      have HBL := Lib.hid hbL
      clear hv hvv hbL hbK hbK' hln h32 h32''
      cases bL with
      | false =>
        go_enter Tryz.func45, Tryz.ntmps45
        go_wp2_with (go_at_call 64; refine (HL.out _).mono ?_; rintro e w1 ⟨rfl, rfl⟩)
        go_ret
        exact ⟨retb (by rw [HV.out]; rfl), rfl⟩
      | true =>
        cases bK with
        | true =>
          go_enter Tryz.func45, Tryz.ntmps45
          go_wp2_with (first
            | (go_at_call 64; refine (HL.out _).mono ?_; rintro e w1 ⟨rfl, rfl⟩)
            | (go_at_call 65; refine (HK.out _).mono ?_; rintro e w1 ⟨rfl, rfl⟩))
          go_ret
          exact ⟨retb (by rw [HV.out]; rfl), rfl⟩
        | false =>
          go_enter Tryz.func45, Tryz.ntmps45
          go_wp2_with (first
            | (go_at_call 64; refine (HL.out _).mono ?_; rintro e w1 ⟨rfl, rfl⟩)
            | (go_at_call 65; refine (HK.out _).mono ?_; rintro e w1 ⟨rfl, rfl⟩))
          go_loop [3] (fun ix => ∃ k : Nat, 1 ≤ k ∧ k ≤ s.size ∧ ix = .int .i64 (k : Int) ∧ Hid (∀ j (hj : j < s.size), j < k → isLD s[j].toNat = true)) (fun ix => s.size - (intOf ix).toNat)
          case atStart => exact ⟨1, by omega, by omega, rfl, Lib.hid fun j hj hj1 => by
            have : j = 0 := by omega
            subst this
            unfold isLD; rw [HBL.out]; rfl⟩
          case round =>
            obtain ⟨k, hk1, hk2, rfl, HA⟩ := hrel
            by_cases hlt : k < s.size
            · have hi1 : (k : Int) < (s.size : Int) := by omega
              obtain ⟨bl, hbl⟩ : ∃ b, isL s[k].toNat = b := ⟨_, rfl⟩
              obtain ⟨bd, hbd⟩ : ∃ b, isD s[k].toNat = b := ⟨_, rfl⟩
              have HL2 : Hid (∀ wz, Calls Tryz.prog 64 #[.int .u8 (s[k].toNat : Int)] wz fun e w' => e = .returned (.bool bl) ∧ wz = w') := Lib.hid fun wz => hbl ▸ rletter_any _ wz
              have HD2 : Hid (∀ wz, Calls Tryz.prog 66 #[.int .u8 (s[k].toNat : Int)] wz fun e w' => e = .returned (.bool bd) ∧ wz = w') := Lib.hid fun wz => hbd ▸ rdigit_any _ wz
              have HE : Hid (isLD s[k].toNat = (bl || bd)) := Lib.hid (by unfold isLD; rw [hbl, hbd])
              clear hbl hbd
              have hN : Hid (∀ (h : (bl || bd) = true), ∀ j (hj : j < s.size), j < k + 1 → isLD s[j].toNat = true) := Lib.hid fun h j hj hj1 => by
                by_cases e : j < k
                · exact HA.out j hj e
                · have : j = k := by omega
                  subst this
                  rw [HE.out, h]
              cases bl with
              | true =>
                go_wp2_with (go_at_call 64; refine (HL2.out _).mono ?_; rintro e w1 ⟨rfl, rfl⟩)
                go_round
                case rel => exact ⟨k + 1, by omega, by omega, by go_num, Lib.hid (hN.out rfl)⟩
                case measure => simp [intOf]; omega
              | false =>
                cases bd with
                | true =>
                  go_wp2_with (first
                    | (go_at_call 64; refine (HL2.out _).mono ?_; rintro e w1 ⟨rfl, rfl⟩)
                    | (go_at_call 66; refine (HD2.out _).mono ?_; rintro e w1 ⟨rfl, rfl⟩))
                  go_round
                  case rel => exact ⟨k + 1, by omega, by omega, by go_num, Lib.hid (hN.out rfl)⟩
                  case measure => simp [intOf]; omega
                | false =>
                  go_wp2_with (first
                    | (go_at_call 64; refine (HL2.out _).mono ?_; rintro e w1 ⟨rfl, rfl⟩)
                    | (go_at_call 66; refine (HD2.out _).mono ?_; rintro e w1 ⟨rfl, rfl⟩))
                  go_ret
                  exact ⟨retb (by rw [HV.out, not_ld hlt HE.out]; rfl), rfl⟩
            · have hi1 : ¬ (k : Int) < (s.size : Int) := by omega
              go_wp2
              go_ret
              exact ⟨retb (by rw [HV.out, all_ld fun j hj => HA.out j hj (by omega)]; rfl), rfl⟩
end Go.Proofs.YticbcnhbpbaocaaGreatDoor
