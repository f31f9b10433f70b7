/-
  The walk of the specification's Integer.
-/
import Derived.Test.YtaalgkcbknlccaaDoorW11
import Derived.Test.YtaalgkcbknlccaaDoorMath4
namespace Go.Proofs.YtaalgkcbknlccaaDoor
open Go.RowKit M

/-- An integer and whether it is one. -/
def IntRes (b : Bool) (w : World) (e : Ending) (w' : World) : Prop := ∃ v : Int, e = .returned (.tuple #[.int .i64 v, .bool b]) ∧ w = w'

theorem int_res {v : Int} {a b : Bool} (h : a = b) : Ending.returned (.tuple #[.int .i64 v, .bool a]) = .returned (.tuple #[.int .i64 v, .bool b]) := by rw [h]
theorem dec_cast (V : Nat) : decide ((V : Int) < 9223372036854775808) = decide (V < 9223372036854775808) := by
  rw [Bool.eq_iff_iff, decide_eq_true_iff, decide_eq_true_iff]; omega

section
variable (t : ByteArray) (w : World)
set_option maxRecDepth 100000 in
theorem rint_long (hne : t.toList.isEmpty = false) (hm : t.size ≤ 20000) (hl : 19 < t.size) : Calls Tryd.prog 47 #[.string t] w (IntRes false w) := by
  have h1 : (19 : Int) < (t.size : Int) := by omega
  have h2 : ¬ t.toList = [] := by intro e; rw [e] at hne; cases hne
  go_enter Tryd.func47, Tryd.ntmps47
  go_wp2
  go_ret2
  exact ⟨_, rfl, rfl⟩
set_option maxRecDepth 100000 in
theorem rint_zero (hne : t.toList.isEmpty = false) (hm : t.size ≤ 19) (hl : 1 < t.size) (h48 : ((t[0].toNat : Int) == 48) = true) : Calls Tryd.prog 47 #[.string t] w (IntRes false w) := by
  have h1 : decide ((19 : Int) < (t.size : Int)) = false := by simp; omega
  have h3 : (1 : Int) < (t.size : Int) := by omega
  have h4 : 0 < t.size := by omega
  have h2 : ¬ t.toList = [] := by intro e; rw [e] at hne; cases hne
  go_enter Tryd.func47, Tryd.ntmps47
  go_wp2
  go_ret2
  exact ⟨_, rfl, rfl⟩
end
set_option maxRecDepth 100000 in
set_option maxHeartbeats 1000000 in
theorem rint_loop (t : ByteArray) (w : World) (hne : t.toList.isEmpty = false) (hm : t.size ≤ 19) (h0 : 0 < t.size) (b : Bool) (hl : b = decide (1 < t.size)) (h48 : b = true → ((t[0].toNat : Int) == 48) = false) (hd : ∀ c ∈ t.data.toList, isD c.toNat = true) :
    Calls Tryd.prog 47 #[.string t] w (IntRes (decide (val t.data.toList < 9223372036854775808)) w) := by
  have h1 : decide ((19 : Int) < (t.size : Int)) = false := by simp; omega
  have h2 : ¬ t.toList = [] := by intro e; rw [e] at hne; cases hne
  have HD := Lib.hid hd
  clear hd
  cases b
  all_goals
    have h3 : decide (1 < t.size) = _ := hl.symm
    have h48' := h48
    clear hl h48
    first
      | (have h4 := h48' rfl; have h5 : (1 : Int) < (t.size : Int) := by simp at h3; omega)
      | (have h5 : decide ((1 : Int) < (t.size : Int)) = false := by simp at h3 ⊢; omega)
    clear h48' h3
    go_enter Tryd.func47, Tryd.ntmps47
    go_wp2_with fail
    go_loop [4, 5] (fun n i => ∃ k : Nat, k ≤ t.size ∧ i = .int .i64 k ∧ n = .int .u64 (valF 0 (t.data.toList.take k))) (fun _ i => t.size - (intOf i).toNat)
    case atStart => exact ⟨0, Nat.zero_le _, rfl, rfl⟩
    case round =>
      obtain ⟨k, hk, rfl, rfl⟩ := hrel
      by_cases hkl : k < t.size
      · have hkl2 : k < t.data.toList.length := by rw [← size_list]; exact hkl
        have hbd := valF_bd _ HD.out k (by omega)
        have hst := Lib.hid (valF_take t.data.toList k hkl2)
        have hge : t.data.toList[k] = t[k] := by simp; rfl
        have hdg := digit_bd (HD.out _ (List.getElem_mem hkl2))
        have hdv := Lib.hid (HD.out _ (List.getElem_mem hkl2))
        rw [hge] at hst hdg hdv
        generalize valF 0 (t.data.toList.take k) = V at *
        obtain ⟨d, hdd⟩ : ∃ d, t[k].toNat = d := ⟨_, rfl⟩
        rw [hdd] at hst hdg hdv
        have hk1 : (k : Int) < (t.size : Int) := by omega
        have b1 : (48 : Int) ≤ (d : Int) := by omega
        have b2 : (d : Int) ≤ 57 := by omega
        have b3 : (V : Int) ≤ 999999999999999999 := by omega
        clear hge
        go_wp2_with (go_at_call 46; refine (rdigit_any _ _).mono ?_; rintro e w' ⟨rfl, rfl⟩; rw [hdv.out])
        go_round
        case rel => exact ⟨k + 1, by omega, by go_num, by rw [hst.out]; congr 1; omega⟩
        case measure => simp [intOf]; omega
      · obtain rfl : k = t.size := by omega
        have e : valF 0 (t.data.toList.take t.size) = val t.data.toList := by rw [List.take_of_length_le (by rw [size_list]; exact Nat.le_refl _)]; rfl
        have hb := valF_lt t.data.toList 0 HD.out
        rw [← size_list] at hb
        have h10 : 10 ^ t.size ≤ 10 ^ 19 := Nat.pow_le_pow_right (by omega) hm
        have h19 : (10 : Nat) ^ 19 = 10000000000000000000 := by decide
        have e3 : valF 0 t.data.toList = val t.data.toList := rfl
        rw [e3] at hb
        rw [e]
        clear e e3
        generalize val t.data.toList = V at *
        have hV : (V : Int) < 18446744073709551616 := by omega
        clear hb h10 h19
        go_wp2
        go_ret2
        exact ⟨wrap64 (V : Int), int_res (dec_cast V), rfl⟩

theorem rint_any (t : ByteArray) (w : World) (hne : t.data.toList ≠ []) (hm : t.size ≤ 20000) (hd : ∀ c ∈ t.data.toList, isD c.toNat = true) :
    Calls Tryd.prog 47 #[.string t] w (IntRes (numOk t.data.toList) w) := by
  have h0 : 0 < t.size := by
    rw [size_list]
    exact List.length_pos_iff.2 hne
  have hi : t.toList.isEmpty = false := by rw [ByteArray.toList_eq, List.isEmpty_eq_false_iff]; exact hne
  obtain ⟨c, r, hcr⟩ := List.exists_cons_of_ne_nil hne
  have hc := get0 hcr h0
  have hlen := size_list t
  by_cases hl : 19 < t.size
  · rw [num_long _ hd (by omega)]
    exact rint_long t w hi hm hl
  · by_cases hz : 1 < t.data.toList.length ∧ t.data.toList.head? = some 48
    · rw [num_zero hz.1 hz.2]
      refine rint_zero t w hi (by omega) (by omega) ?_
      rw [hc]
      rw [hcr, List.head?_cons] at hz
      have : c = 48 := Option.some.inj hz.2
      rw [this]; rfl
    · rw [num_else hz]
      refine rint_loop t w hi (by omega) h0 _ rfl (fun hb => ?_) hd
      rw [hc]
      simp only [decide_eq_true_eq] at hb
      simp
      intro e
      apply hz
      refine ⟨by omega, ?_⟩
      rw [hcr, List.head?_cons]
      have : c.toNat = 48 := by omega
      rw [UInt8.toNat_inj.1 (show c.toNat = (48 : UInt8).toNat from this)]
end Go.Proofs.YtaalgkcbknlccaaDoor
