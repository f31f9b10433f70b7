/-
  The walk of the specification's next: comments and operators; next in one word.
-/
import Derived.Test.YtaalgkcbknlccaaDoorR3
namespace Go.Proofs.YtaalgkcbknlccaaDoor
open Go.RowKit M

theorem rest_ext (s : ByteArray) (a : Nat) : ((s.extract a s.size).extract 0 (opOf (s.extract a s.size).data.toList)) = s.extract a (a + opOf (s.data.toList.drop a)) := by
  refine Go.WideShapes.bytes_inj ?_
  have h := ext_list (s.extract a s.size) 0 (opOf (s.extract a s.size).data.toList)
  rw [Nat.zero_add] at h
  rw [h, ext_list, rest_list]; rfl
theorem rop_ext (s : ByteArray) (a : Nat) (w : World) (hs : s.size ≤ 20000) :
    Calls Tryd.prog 48 #[.string (s.extract a s.size)] w fun e w' => e = .returned (.string (s.extract a (a + opOf (s.data.toList.drop a)))) ∧ w = w' := by
  have := rop_any (s.extract a s.size) w (by simp; omega)
  rw [rest_ext] at this
  exact this
theorem rop_none (s : ByteArray) (a : Nat) (w : World) (hs : s.size ≤ 20000) (h : opOf (s.data.toList.drop a) = 0) :
    Calls Tryd.prog 48 #[.string (s.extract a s.size)] w fun e w' => e = .returned (.string ⟨#[]⟩) ∧ w = w' := by
  have := rop_ext s a w hs
  rw [h] at this
  have e : s.extract a (a + 0) = ⟨#[]⟩ := Go.WideShapes.bytes_inj (by rw [ext_list]; simp)
  rw [e] at this
  exact this

/-- No comment begins at a. -/
def NoSlash (s : ByteArray) (a b : Nat) : Prop :=
  ((b : Int) == 47) = false ∨ (((b : Int) == 47) = true ∧ decide ((a : Int) + 1 < (s.size : Int)) = false) ∨ (((b : Int) == 47) = true ∧ ∃ h : a + 1 < s.size, ((s[a + 1].toNat : Int) == 47) = false)

set_option maxRecDepth 100000 in
set_option maxHeartbeats 2000000 in
theorem rnext_op (s : ByteArray) (a : Nat) (w : World) (hs : s.size ≤ 20000) (ha : a < s.size) (b : Nat) (hb : s[a].toNat = b) (hL : isL b = false) (hD : isD b = false) (hn : NoSlash s a b) (ho : opOf (s.data.toList.drop a) ≠ 0) :
    Calls Tryd.prog 34 #[.string s, .int .i64 (a : Int)] w (RTok w 4 (s.extract a (a + opOf (s.data.toList.drop a))) a) := by
  have hb0 : (0 : Int) ≤ (a : Int) := by omega
  have hb1 : (a : Int) < (s.size : Int) := by omega
  have hb2 : (a : Int) ≤ (s.size : Int) := by omega
  have hle := opOf_le (s.data.toList.drop a)
  have hne : ¬ (s.extract a (a + opOf (s.data.toList.drop a))).toList = [] := by
    rw [ext_toList]
    intro e
    have := congrArg List.length e
    simp at this hle
    omega
  have hne2 : (s.extract a (a + opOf (s.data.toList.drop a))).toList.isEmpty = false := by simp [hne]
  have H1 := Lib.hid hne
  have H2 := Lib.hid hne2
  clear hne hne2 hle ho
  rcases hn with h1 | ⟨h1, h2⟩ | ⟨h1, h3, h2⟩
  · go_enter Tryd.func34, Tryd.ntmps34
    go_wp2_with (first | (go_at_call 45; refine (rletter_any _ _).mono ?_; rintro e w' ⟨rfl, rfl⟩; rw [hL]) | (go_at_call 46; refine (rdigit_any _ _).mono ?_; rintro e w' ⟨rfl, rfl⟩; rw [hD]))
    refine (rop_ext s a _ hs).mono ?_
    rintro e w' ⟨rfl, rfl⟩
    have hne := H1.out
    have hne2 := H2.out
    go_wp2
    exact bodyPost_ret (v := .tuple #[tv 4 (s.extract a (a + opOf (s.data.toList.drop a))) a, .int .i64 0]) (by simp [results, Tryd.results34, go_sem]) rfl ⟨rfl, below1 _ _⟩
  · go_enter Tryd.func34, Tryd.ntmps34
    go_wp2_with (first | (go_at_call 45; refine (rletter_any _ _).mono ?_; rintro e w' ⟨rfl, rfl⟩; rw [hL]) | (go_at_call 46; refine (rdigit_any _ _).mono ?_; rintro e w' ⟨rfl, rfl⟩; rw [hD]))
    refine (rop_ext s a _ hs).mono ?_
    rintro e w' ⟨rfl, rfl⟩
    have hne := H1.out
    have hne2 := H2.out
    go_wp2
    exact bodyPost_ret (v := .tuple #[tv 4 (s.extract a (a + opOf (s.data.toList.drop a))) a, .int .i64 0]) (by simp [results, Tryd.results34, go_sem]) rfl ⟨rfl, below1 _ _⟩
  · have h4 : (a : Int) + 1 < (s.size : Int) := by omega
    have h5 : (0 : Int) ≤ (a : Int) + 1 := by omega
    have h6 : ((a : Int) + 1).toNat = a + 1 := by omega
    go_enter Tryd.func34, Tryd.ntmps34
    go_wp2_with (first | (go_at_call 45; refine (rletter_any _ _).mono ?_; rintro e w' ⟨rfl, rfl⟩; rw [hL]) | (go_at_call 46; refine (rdigit_any _ _).mono ?_; rintro e w' ⟨rfl, rfl⟩; rw [hD]))
    refine (rop_ext s a _ hs).mono ?_
    rintro e w' ⟨rfl, rfl⟩
    have hne := H1.out
    have hne2 := H2.out
    go_wp2
    exact bodyPost_ret (v := .tuple #[tv 4 (s.extract a (a + opOf (s.data.toList.drop a))) a, .int .i64 0]) (by simp [results, Tryd.results34, go_sem]) rfl ⟨rfl, below1 _ _⟩

set_option maxRecDepth 100000 in
set_option maxHeartbeats 2000000 in
theorem rnext_noop (s : ByteArray) (a : Nat) (w : World) (hs : s.size ≤ 20000) (ha : a < s.size) (b : Nat) (hb : s[a].toNat = b) (hL : isL b = false) (hD : isD b = false) (hn : NoSlash s a b) (ho : opOf (s.data.toList.drop a) = 0) :
    Calls Tryd.prog 34 #[.string s, .int .i64 (a : Int)] w (RErr w 4) := by
  have hb0 : (0 : Int) ≤ (a : Int) := by omega
  have hb1 : (a : Int) < (s.size : Int) := by omega
  have hb2 : (a : Int) ≤ (s.size : Int) := by omega
  have HO := Lib.hid ho
  clear ho
  rcases hn with h1 | ⟨h1, h2⟩ | ⟨h1, h3, h2⟩
  · go_enter Tryd.func34, Tryd.ntmps34
    go_wp2_with (first | (go_at_call 45; refine (rletter_any _ _).mono ?_; rintro e w' ⟨rfl, rfl⟩; rw [hL]) | (go_at_call 46; refine (rdigit_any _ _).mono ?_; rintro e w' ⟨rfl, rfl⟩; rw [hD]))
    refine (rop_none s a _ hs HO.out).mono ?_
    rintro e w' ⟨rfl, rfl⟩
    go_wp2
    exact bodyPost_ret (v := .tuple #[tv 0 ⟨#[]⟩ 0, .int .i64 4]) (by simp [results, Tryd.results34, go_sem]) rfl ⟨0, _, 0, rfl, below1 _ _⟩
  · go_enter Tryd.func34, Tryd.ntmps34
    go_wp2_with (first | (go_at_call 45; refine (rletter_any _ _).mono ?_; rintro e w' ⟨rfl, rfl⟩; rw [hL]) | (go_at_call 46; refine (rdigit_any _ _).mono ?_; rintro e w' ⟨rfl, rfl⟩; rw [hD]))
    refine (rop_none s a _ hs HO.out).mono ?_
    rintro e w' ⟨rfl, rfl⟩
    go_wp2
    exact bodyPost_ret (v := .tuple #[tv 0 ⟨#[]⟩ 0, .int .i64 4]) (by simp [results, Tryd.results34, go_sem]) rfl ⟨0, _, 0, rfl, below1 _ _⟩
  · have h4 : (a : Int) + 1 < (s.size : Int) := by omega
    have h5 : (0 : Int) ≤ (a : Int) + 1 := by omega
    have h6 : ((a : Int) + 1).toNat = a + 1 := by omega
    go_enter Tryd.func34, Tryd.ntmps34
    go_wp2_with (first | (go_at_call 45; refine (rletter_any _ _).mono ?_; rintro e w' ⟨rfl, rfl⟩; rw [hL]) | (go_at_call 46; refine (rdigit_any _ _).mono ?_; rintro e w' ⟨rfl, rfl⟩; rw [hD]))
    refine (rop_none s a _ hs HO.out).mono ?_
    rintro e w' ⟨rfl, rfl⟩
    go_wp2
    exact bodyPost_ret (v := .tuple #[tv 0 ⟨#[]⟩ 0, .int .i64 4]) (by simp [results, Tryd.results34, go_sem]) rfl ⟨0, _, 0, rfl, below1 _ _⟩

theorem cmt_end {s : ByteArray} {a m : Nat} {w w' : World} (ham : a ≤ m) (he : m - a = spn notFeed (s.data.toList.drop a)) (hb : Below w.heap.size w w') :
    RTok w 5 (s.extract a (a + spn notFeed (s.data.toList.drop a))) a (.returned (.tuple #[tv 5 (s.extract a m) a, .int .i64 0])) w' := by
  obtain rfl : m = a + spn notFeed (s.data.toList.drop a) := by omega
  exact ⟨rfl, hb⟩
set_option maxRecDepth 100000 in
set_option maxHeartbeats 2000000 in
theorem rnext_comment (s : ByteArray) (a : Nat) (w : World) (hs : s.size ≤ 20000) (ha : a < s.size) (hb : s[a].toNat = 47) (h3 : a + 1 < s.size) (hb2 : s[a + 1].toNat = 47) :
    Calls Tryd.prog 34 #[.string s, .int .i64 (a : Int)] w (RTok w 5 (s.extract a (a + spn notFeed (s.data.toList.drop a))) a) := by
  have hb0 : (0 : Int) ≤ (a : Int) := by omega
  have hb1 : (a : Int) < (s.size : Int) := by omega
  have h4 : (a : Int) + 1 < (s.size : Int) := by omega
  have h5 : (0 : Int) ≤ (a : Int) + 1 := by omega
  have h6 : ((a : Int) + 1).toNat = a + 1 := by omega
  have hL : isL 47 = false := by decide
  have hD : isD 47 = false := by decide
  go_enter Tryd.func34, Tryd.ntmps34
  go_wp2_with (first | (go_at_call 45; refine (rletter_any 47 _).mono ?_; rintro e w' ⟨rfl, rfl⟩; rw [hL]) | (go_at_call 46; refine (rdigit_any 47 _).mono ?_; rintro e w' ⟨rfl, rfl⟩; rw [hD]))
  clear hb hb2
  go_loop [6] (fun i => ∃ m : Nat, a ≤ m ∧ m ≤ s.size ∧ m - a ≤ spn notFeed (s.data.toList.drop a) ∧ i = .int .i64 m) (fun i => s.size - (intOf i).toNat)
  case atStart => exact ⟨a, Nat.le_refl _, by omega, by omega, rfl⟩
  case round =>
    obtain ⟨m, ham, hms, hk, rfl⟩ := hrel
    have HK := Lib.hid hk
    clear hk
    have hm2 : (a : Int) ≤ (m : Int) := by omega
    have hm3 : (m : Int) ≤ (s.size : Int) := by omega
    by_cases hin : m < s.size
    · have hm0 : (0 : Int) ≤ (m : Int) := by omega
      have hm1 : (m : Int) < (s.size : Int) := by omega
      have HB := Lib.hid (byte_drop2 s a m ham hin)
      obtain ⟨c, hc⟩ : ∃ c, s[m].toNat = c := ⟨_, rfl⟩
      rw [hc] at HB
      by_cases hp : c = 10
      · have hq : ((c : Int) != 10) = false := by simp; omega
        have HE : Hid (m - a = spn notFeed (s.data.toList.drop a)) := spn_stop _ _ _ HK.out (fun _ => by rw [HB.out]; simp [notFeed, hp])
        clear hp
        go_wp2
        exact bodyPost_ret (v := .tuple #[tv 5 (s.extract a m) a, .int .i64 0]) (by simp [results, Tryd.results34, go_sem]) rfl (cmt_end ham HE.out (below1 _ _))
      · have hq : ((c : Int) != 10) = true := by simp; omega
        have HP := Lib.hid hp
        clear hp
        go_wp2
        go_round
        case rel => exact ⟨m + 1, by omega, by omega, by have := spn_more _ _ _ HK.out (by simp; omega) (by rw [HB.out]; simp [notFeed, HP.out]); omega, by go_num⟩
        case measure => simp [intOf]; omega
    · have hd : decide ((m : Int) < (s.size : Int)) = false := by simp; omega
      have HE : Hid (m - a = spn notFeed (s.data.toList.drop a)) := spn_stop _ _ _ HK.out (fun g => by simp at g; omega)
      go_wp2
      exact bodyPost_ret (v := .tuple #[tv 5 (s.extract a m) a, .int .i64 0]) (by simp [results, Tryd.results34, go_sem]) rfl (cmt_end ham HE.out (below1 _ _))
end Go.Proofs.YtaalgkcbknlccaaDoor
