/-
  The walk of the specification's next.
-/
import Derived.Test.YtaalgkcbknlccaaDoorW12
import Derived.Test.YtaalgkcbknlccaaDoorR1
import Derived.Test.YtaalgkcbknlccaaDoorR2
namespace Go.Proofs.YtaalgkcbknlccaaDoor
open Go.RowKit M

/-- A token without an error; an error. -/
def RTok (w : World) (k : Nat) (t : ByteArray) (a : Nat) (e : Ending) (w' : World) : Prop := e = .returned (.tuple #[tv k t a, .int .i64 0]) ∧ Below w.heap.size w w'
def RErr (w : World) (err : Nat) (e : Ending) (w' : World) : Prop := ∃ k t a, e = .returned (.tuple #[tv k t a, .int .i64 (err : Int)]) ∧ Below w.heap.size w w'

theorem kwk {x : Bs} {v : Bool} (h : kw x = v) : kwKind x = if v then 3 else 1 := by unfold kwKind; rw [h]
theorem below2 (w : World) (o1 o2 : Obj) : Below w.heap.size w ((w.alloc o1).alloc o2) := ((Below.refl _ _).alloc (Nat.le_refl _) o1).alloc (by simp) o2
theorem below1 (w : World) (o1 : Obj) : Below w.heap.size w (w.alloc o1) := (Below.refl _ _).alloc (Nat.le_refl _) o1

theorem name_end {s : ByteArray} {a m : Nat} {w w' : World} {v : Bool} (h : kw (s.extract a m).toList = v) (ham : a ≤ m) (he : m - a = spn isLD (s.data.toList.drop a)) (hb : Below w.heap.size w w') :
    RTok w (kwKind ((s.data.toList.drop a).take (spn isLD (s.data.toList.drop a)))) (s.extract a (a + spn isLD (s.data.toList.drop a))) a (.returned (.tuple #[tv (if v then 3 else 1) (s.extract a m) a, .int .i64 0])) w' := by
  obtain rfl : m = a + spn isLD (s.data.toList.drop a) := by omega
  refine ⟨?_, hb⟩
  rw [ext_toList] at h
  rw [kwk h]

set_option maxRecDepth 100000 in
set_option maxHeartbeats 2000000 in
theorem rnext_name (s : ByteArray) (a : Nat) (w : World) (hs : s.size ≤ 20000) (ha : a < s.size) (b : Nat) (hb : s[a].toNat = b) (hL : isL b = true) (hn : ¬ 32 < spn isLD (s.data.toList.drop a)) :
    Calls Tryd.prog 34 #[.string s, .int .i64 (a : Int)] w (RTok w (kwKind ((s.data.toList.drop a).take (spn isLD (s.data.toList.drop a)))) (s.extract a (a + spn isLD (s.data.toList.drop a))) a) := by
  have hb0 : (0 : Int) ≤ (a : Int) := by omega
  have hb1 : (a : Int) < (s.size : Int) := by omega
  have HN := Lib.hid hn
  clear hn
  go_enter Tryd.func34, Tryd.ntmps34
  go_wp2_with (go_at_call 45; refine (rletter_any _ _).mono ?_; rintro e w' ⟨rfl, rfl⟩; rw [hL])
  clear hb
  go_loop [6] (fun i => ∃ m : Nat, a ≤ m ∧ m ≤ s.size ∧ m - a ≤ spn isLD (s.data.toList.drop a) ∧ i = .int .i64 m) (fun i => s.size - (intOf i).toNat)
  case atStart => exact ⟨a, Nat.le_refl _, by omega, by omega, rfl⟩
  case round =>
    obtain ⟨m, ham, hms, hk, rfl⟩ := hrel
    have HK := Lib.hid hk
    clear hk
    have hm2 : (a : Int) ≤ (m : Int) := by omega
    have hm3 : (m : Int) ≤ (s.size : Int) := by omega
    by_cases hin : m < s.size
    · have hm0 : (0 : Int) ≤ (m : Int) := by omega
      have hm1 : (m : Int) < (s.size : Int) := by omega
      have HB := Lib.hid (byte_drop2 s a m ham hin)
      obtain ⟨c, hc⟩ : ∃ c, s[m].toNat = c := ⟨_, rfl⟩
      rw [hc] at HB
      cases hp : isLD c
      · have hp1 : isL c = false := by unfold isLD at hp; simp at hp; exact hp.1
        have hp2 : isD c = false := by unfold isLD at hp; simp at hp; exact hp.2
        have HE : Hid (m - a = spn isLD (s.data.toList.drop a)) := spn_stop _ _ _ HK.out (fun _ => by rw [HB.out]; exact hp)
        clear hp
        have hfact : decide ((32 : Int) < ((m - a : Nat) : Int)) = false := by have := HE.out; have := HN.out; simp; omega
        go_wp2_with (first | (go_at_call 45; refine (rletter_any _ _).mono ?_; rintro e w' ⟨rfl, rfl⟩; rw [hp1]) | (go_at_call 46; refine (rdigit_any _ _).mono ?_; rintro e w' ⟨rfl, rfl⟩; rw [hp2]) | (go_at_call 18; refine (rkeyword_any _ _).mono ?_; rintro e w' ⟨rfl, rfl⟩))
        · have hk := Lib.hid (show kw (s.extract a m).toList = true by assumption)
          exact bodyPost_ret (v := .tuple #[tv (if true then 3 else 1) (s.extract a m) a, .int .i64 0]) (by simp [results, Tryd.results34, go_sem]) rfl (name_end hk.out ham HE.out (below2 _ _ _))
        · have hk := Lib.hid (show kw (s.extract a m).toList = false by assumption)
          exact bodyPost_ret (v := .tuple #[tv (if false then 3 else 1) (s.extract a m) a, .int .i64 0]) (by simp [results, Tryd.results34, go_sem]) rfl (name_end hk.out ham HE.out (below2 _ _ _))
      · have HP := Lib.hid hp
        cases hp1 : isL c
        · have hp2 : isD c = true := by unfold isLD at hp; rw [hp1] at hp; simpa using hp
          clear hp
          go_wp2_with (first | (go_at_call 45; refine (rletter_any _ _).mono ?_; rintro e w' ⟨rfl, rfl⟩; rw [hp1]) | (go_at_call 46; refine (rdigit_any _ _).mono ?_; rintro e w' ⟨rfl, rfl⟩; rw [hp2]))
          go_round
          case rel => exact ⟨m + 1, by omega, by omega, by have := spn_more _ _ _ HK.out (by simp; omega) (by rw [HB.out]; exact HP.out); omega, by go_num⟩
          case measure => simp [intOf]; omega
        · clear hp
          go_wp2_with (first | (go_at_call 45; refine (rletter_any _ _).mono ?_; rintro e w' ⟨rfl, rfl⟩; rw [hp1]))
          go_round
          case rel => exact ⟨m + 1, by omega, by omega, by have := spn_more _ _ _ HK.out (by simp; omega) (by rw [HB.out]; exact HP.out); omega, by go_num⟩
          case measure => simp [intOf]; omega
    · have hd : decide ((m : Int) < (s.size : Int)) = false := by simp; omega
      have HE : Hid (m - a = spn isLD (s.data.toList.drop a)) := spn_stop _ _ _ HK.out (fun g => by simp at g; omega)
      have hfact : decide ((32 : Int) < ((m - a : Nat) : Int)) = false := by have := HE.out; have := HN.out; simp; omega
      go_wp2_with (first | (go_at_call 18; refine (rkeyword_any _ _).mono ?_; rintro e w' ⟨rfl, rfl⟩))
      · have hk := Lib.hid (show kw (s.extract a m).toList = true by assumption)
        exact bodyPost_ret (v := .tuple #[tv (if true then 3 else 1) (s.extract a m) a, .int .i64 0]) (by simp [results, Tryd.results34, go_sem]) rfl (name_end hk.out ham HE.out (below2 _ _ _))
      · have hk := Lib.hid (show kw (s.extract a m).toList = false by assumption)
        exact bodyPost_ret (v := .tuple #[tv (if false then 3 else 1) (s.extract a m) a, .int .i64 0]) (by simp [results, Tryd.results34, go_sem]) rfl (name_end hk.out ham HE.out (below2 _ _ _))
set_option maxRecDepth 100000 in
set_option maxHeartbeats 2000000 in
theorem rnext_long (s : ByteArray) (a : Nat) (w : World) (hs : s.size ≤ 20000) (ha : a < s.size) (b : Nat) (hb : s[a].toNat = b) (hL : isL b = true) (hn : 32 < spn isLD (s.data.toList.drop a)) :
    Calls Tryd.prog 34 #[.string s, .int .i64 (a : Int)] w (RErr w 3) := by
  have hb0 : (0 : Int) ≤ (a : Int) := by omega
  have hb1 : (a : Int) < (s.size : Int) := by omega
  have HN := Lib.hid hn
  clear hn
  go_enter Tryd.func34, Tryd.ntmps34
  go_wp2_with (go_at_call 45; refine (rletter_any _ _).mono ?_; rintro e w' ⟨rfl, rfl⟩; rw [hL])
  clear hb
  go_loop [6] (fun i => ∃ m : Nat, a ≤ m ∧ m ≤ s.size ∧ m - a ≤ spn isLD (s.data.toList.drop a) ∧ i = .int .i64 m) (fun i => s.size - (intOf i).toNat)
  case atStart => exact ⟨a, Nat.le_refl _, by omega, by omega, rfl⟩
  case round =>
    obtain ⟨m, ham, hms, hk, rfl⟩ := hrel
    have HK := Lib.hid hk
    clear hk
    have hm2 : (a : Int) ≤ (m : Int) := by omega
    have hm3 : (m : Int) ≤ (s.size : Int) := by omega
    by_cases hin : m < s.size
    · have hm0 : (0 : Int) ≤ (m : Int) := by omega
      have hm1 : (m : Int) < (s.size : Int) := by omega
      have HB := Lib.hid (byte_drop2 s a m ham hin)
      obtain ⟨c, hc⟩ : ∃ c, s[m].toNat = c := ⟨_, rfl⟩
      rw [hc] at HB
      cases hp : isLD c
      · have hp1 : isL c = false := by unfold isLD at hp; simp at hp; exact hp.1
        have hp2 : isD c = false := by unfold isLD at hp; simp at hp; exact hp.2
        have HE : Hid (m - a = spn isLD (s.data.toList.drop a)) := spn_stop _ _ _ HK.out (fun _ => by rw [HB.out]; exact hp)
        clear hp
        have hfact : (32 : Int) < ((m - a : Nat) : Int) := by have := HE.out; have := HN.out; simp; omega
        go_wp2_with (first | (go_at_call 45; refine (rletter_any _ _).mono ?_; rintro e w' ⟨rfl, rfl⟩; rw [hp1]) | (go_at_call 46; refine (rdigit_any _ _).mono ?_; rintro e w' ⟨rfl, rfl⟩; rw [hp2]) | (go_at_call 18; refine (rkeyword_any _ _).mono ?_; rintro e w' ⟨rfl, rfl⟩))
        · exact bodyPost_ret (v := .tuple #[tv 3 (s.extract a m) a, .int .i64 3]) (by simp [results, Tryd.results34, go_sem]) rfl ⟨3, _, _, rfl, below2 _ _ _⟩
        · exact bodyPost_ret (v := .tuple #[tv 1 (s.extract a m) a, .int .i64 3]) (by simp [results, Tryd.results34, go_sem]) rfl ⟨1, _, _, rfl, below2 _ _ _⟩
      · have HP := Lib.hid hp
        cases hp1 : isL c
        · have hp2 : isD c = true := by unfold isLD at hp; rw [hp1] at hp; simpa using hp
          clear hp
          go_wp2_with (first | (go_at_call 45; refine (rletter_any _ _).mono ?_; rintro e w' ⟨rfl, rfl⟩; rw [hp1]) | (go_at_call 46; refine (rdigit_any _ _).mono ?_; rintro e w' ⟨rfl, rfl⟩; rw [hp2]))
          go_round
          case rel => exact ⟨m + 1, by omega, by omega, by have := spn_more _ _ _ HK.out (by simp; omega) (by rw [HB.out]; exact HP.out); omega, by go_num⟩
          case measure => simp [intOf]; omega
        · clear hp
          go_wp2_with (first | (go_at_call 45; refine (rletter_any _ _).mono ?_; rintro e w' ⟨rfl, rfl⟩; rw [hp1]))
          go_round
          case rel => exact ⟨m + 1, by omega, by omega, by have := spn_more _ _ _ HK.out (by simp; omega) (by rw [HB.out]; exact HP.out); omega, by go_num⟩
          case measure => simp [intOf]; omega
    · have hd : decide ((m : Int) < (s.size : Int)) = false := by simp; omega
      have HE : Hid (m - a = spn isLD (s.data.toList.drop a)) := spn_stop _ _ _ HK.out (fun g => by simp at g; omega)
      have hfact : (32 : Int) < ((m - a : Nat) : Int) := by have := HE.out; have := HN.out; simp; omega
      go_wp2_with (first | (go_at_call 18; refine (rkeyword_any _ _).mono ?_; rintro e w' ⟨rfl, rfl⟩))
      · exact bodyPost_ret (v := .tuple #[tv 3 (s.extract a m) a, .int .i64 3]) (by simp [results, Tryd.results34, go_sem]) rfl ⟨3, _, _, rfl, below2 _ _ _⟩
      · exact bodyPost_ret (v := .tuple #[tv 1 (s.extract a m) a, .int .i64 3]) (by simp [results, Tryd.results34, go_sem]) rfl ⟨1, _, _, rfl, below2 _ _ _⟩
theorem rint_ext (s : ByteArray) (a m : Nat) (hs : s.size ≤ 20000) (ham : a ≤ m) (hms : m ≤ s.size) (he : m - a = spn isD (s.data.toList.drop a)) (hpos : 1 ≤ spn isD (s.data.toList.drop a)) (w : World) :
    Calls Tryd.prog 47 #[.string (s.extract a m)] w (IntRes (numOk ((s.data.toList.drop a).take (spn isD (s.data.toList.drop a)))) w) := by
  obtain rfl : m = a + spn isD (s.data.toList.drop a) := by omega
  have := rint_any (s.extract a (a + spn isD (s.data.toList.drop a))) w (by
    rw [ext_list]
    intro e
    have := congrArg List.length e
    simp at this
    omega) (by simp; omega) (by rw [ext_list]; exact spn_all isD _)
  rw [ext_list] at this
  exact this
theorem int_end {s : ByteArray} {a m : Nat} {w w' : World} (ham : a ≤ m) (he : m - a = spn isD (s.data.toList.drop a)) (hb : Below w.heap.size w w') :
    RTok w 2 (s.extract a (a + spn isD (s.data.toList.drop a))) a (.returned (.tuple #[tv 2 (s.extract a m) a, .int .i64 0])) w' := by
  obtain rfl : m = a + spn isD (s.data.toList.drop a) := by omega
  exact ⟨rfl, hb⟩
theorem hd_rest {s : ByteArray} {a m : Nat} (ham : a ≤ m) (he : m - a = spn isD (s.data.toList.drop a)) (h : m < s.size) : hdL ((s.data.toList.drop a).drop (spn isD (s.data.toList.drop a))) = isL s[m].toNat := by
  obtain rfl : m = a + spn isD (s.data.toList.drop a) := by omega
  rw [List.drop_drop, drop_at s _ h]; rfl
theorem hd_none {s : ByteArray} {a m : Nat} (ham : a ≤ m) (he : m - a = spn isD (s.data.toList.drop a)) (h : ¬ m < s.size) : hdL ((s.data.toList.drop a).drop (spn isD (s.data.toList.drop a))) = false := by
  obtain rfl : m = a + spn isD (s.data.toList.drop a) := by omega
  rw [List.drop_drop, List.drop_of_length_le (by simp; omega)]; rfl

set_option maxRecDepth 100000 in
set_option maxHeartbeats 2000000 in
theorem rnext_int (s : ByteArray) (a : Nat) (w : World) (hs : s.size ≤ 20000) (ha : a < s.size) (b : Nat) (hb : s[a].toNat = b) (hL : isL b = false) (hD : isD b = true) (hn : numOk ((s.data.toList.drop a).take (spn isD (s.data.toList.drop a))) = true ∧ hdL ((s.data.toList.drop a).drop (spn isD (s.data.toList.drop a))) = false) :
    Calls Tryd.prog 34 #[.string s, .int .i64 (a : Int)] w (RTok w 2 (s.extract a (a + spn isD (s.data.toList.drop a))) a) := by
  have hb0 : (0 : Int) ≤ (a : Int) := by omega
  have hb1 : (a : Int) < (s.size : Int) := by omega
  have HN := Lib.hid hn
  have hpos : 1 ≤ spn isD (s.data.toList.drop a) := by rw [drop_at s a ha, spn_cons, if_pos (by rw [hb]; exact hD)]; omega
  clear hn
  go_enter Tryd.func34, Tryd.ntmps34
  go_wp2_with (first | (go_at_call 45; refine (rletter_any _ _).mono ?_; rintro e w' ⟨rfl, rfl⟩; rw [hL]) | (go_at_call 46; refine (rdigit_any _ _).mono ?_; rintro e w' ⟨rfl, rfl⟩; rw [hD]))
  clear hb
  go_loop [6] (fun i => ∃ m : Nat, a ≤ m ∧ m ≤ s.size ∧ m - a ≤ spn isD (s.data.toList.drop a) ∧ i = .int .i64 m) (fun i => s.size - (intOf i).toNat)
  case atStart => exact ⟨a, Nat.le_refl _, by omega, by omega, rfl⟩
  case round =>
    obtain ⟨m, ham, hms, hk, rfl⟩ := hrel
    have HK := Lib.hid hk
    clear hk
    have hm2 : (a : Int) ≤ (m : Int) := by omega
    have hm3 : (m : Int) ≤ (s.size : Int) := by omega
    by_cases hin : m < s.size
    · have hm0 : (0 : Int) ≤ (m : Int) := by omega
      have hm1 : (m : Int) < (s.size : Int) := by omega
      have HB := Lib.hid (byte_drop2 s a m ham hin)
      cases hp : isD s[m].toNat
      · have HE : Hid (m - a = spn isD (s.data.toList.drop a)) := spn_stop _ _ _ HK.out (fun _ => by rw [HB.out]; exact hp)
        have HP := Lib.hid hp
        clear hp
        have HI := Lib.hid (rint_ext s a m hs ham hms HE.out hpos)
        go_wp2_with (first | (go_at_call 46; refine (rdigit_any _ _).mono ?_; rintro e w' ⟨rfl, rfl⟩; rw [HP.out]))
        refine (HI.out _).mono ?_
        rintro e w' ⟨v, rfl, rfl⟩
        rw [HN.out.1]
        have HL2 : Hid (isL s[m].toNat = false) := by have := HN.out.2; rw [hd_rest ham HE.out hin] at this; exact this
        go_wp2_with (first | (go_at_call 45; refine (rletter_any _ _).mono ?_; rintro e w' ⟨rfl, rfl⟩; rw [HL2.out]))
        exact bodyPost_ret (v := .tuple #[tv 2 (s.extract a m) a, .int .i64 0]) (by simp [results, Tryd.results34, go_sem]) rfl (int_end ham HE.out (below1 _ _))
      · have HP := Lib.hid hp
        clear hp
        go_wp2_with (first | (go_at_call 46; refine (rdigit_any _ _).mono ?_; rintro e w' ⟨rfl, rfl⟩; rw [HP.out]))
        go_round
        case rel => exact ⟨m + 1, by omega, by omega, by have := spn_more _ _ _ HK.out (by simp; omega) (by rw [HB.out]; exact HP.out); omega, by go_num⟩
        case measure => simp [intOf]; omega
    · have hd : decide ((m : Int) < (s.size : Int)) = false := by simp; omega
      have HE : Hid (m - a = spn isD (s.data.toList.drop a)) := spn_stop _ _ _ HK.out (fun g => by simp at g; omega)
      have HI := Lib.hid (rint_ext s a m hs ham hms HE.out hpos)
      go_wp2_with fail
      refine (HI.out _).mono ?_
      rintro e w' ⟨v, rfl, rfl⟩
      rw [HN.out.1]
      go_wp2_with fail
      exact bodyPost_ret (v := .tuple #[tv 2 (s.extract a m) a, .int .i64 0]) (by simp [results, Tryd.results34, go_sem]) rfl (int_end ham HE.out (below1 _ _))
set_option maxRecDepth 100000 in
set_option maxHeartbeats 2000000 in
theorem rnext_noint (s : ByteArray) (a : Nat) (w : World) (hs : s.size ≤ 20000) (ha : a < s.size) (b : Nat) (hb : s[a].toNat = b) (hL : isL b = false) (hD : isD b = true) (hn : numOk ((s.data.toList.drop a).take (spn isD (s.data.toList.drop a))) = true → hdL ((s.data.toList.drop a).drop (spn isD (s.data.toList.drop a))) = true) :
    Calls Tryd.prog 34 #[.string s, .int .i64 (a : Int)] w (RErr w 4) := by
  have hb0 : (0 : Int) ≤ (a : Int) := by omega
  have hb1 : (a : Int) < (s.size : Int) := by omega
  have HN := Lib.hid hn
  have hpos : 1 ≤ spn isD (s.data.toList.drop a) := by rw [drop_at s a ha, spn_cons, if_pos (by rw [hb]; exact hD)]; omega
  clear hn
  go_enter Tryd.func34, Tryd.ntmps34
  go_wp2_with (first | (go_at_call 45; refine (rletter_any _ _).mono ?_; rintro e w' ⟨rfl, rfl⟩; rw [hL]) | (go_at_call 46; refine (rdigit_any _ _).mono ?_; rintro e w' ⟨rfl, rfl⟩; rw [hD]))
  clear hb
  go_loop [6] (fun i => ∃ m : Nat, a ≤ m ∧ m ≤ s.size ∧ m - a ≤ spn isD (s.data.toList.drop a) ∧ i = .int .i64 m) (fun i => s.size - (intOf i).toNat)
  case atStart => exact ⟨a, Nat.le_refl _, by omega, by omega, rfl⟩
  case round =>
    obtain ⟨m, ham, hms, hk, rfl⟩ := hrel
    have HK := Lib.hid hk
    clear hk
    have hm2 : (a : Int) ≤ (m : Int) := by omega
    have hm3 : (m : Int) ≤ (s.size : Int) := by omega
    by_cases hin : m < s.size
    · have hm0 : (0 : Int) ≤ (m : Int) := by omega
      have hm1 : (m : Int) < (s.size : Int) := by omega
      have HB := Lib.hid (byte_drop2 s a m ham hin)
      cases hp : isD s[m].toNat
      · have HE : Hid (m - a = spn isD (s.data.toList.drop a)) := spn_stop _ _ _ HK.out (fun _ => by rw [HB.out]; exact hp)
        have HP := Lib.hid hp
        clear hp
        have HI := Lib.hid (rint_ext s a m hs ham hms HE.out hpos)
        go_wp2_with (first | (go_at_call 46; refine (rdigit_any _ _).mono ?_; rintro e w' ⟨rfl, rfl⟩; rw [HP.out]))
        refine (HI.out _).mono ?_
        rintro e w' ⟨v, rfl, rfl⟩
        have HL2 : Hid (numOk ((s.data.toList.drop a).take (spn isD (s.data.toList.drop a))) = true → isL s[m].toNat = true) := fun g => by rw [← hd_rest ham HE.out hin]; exact HN.out g
        cases hq : numOk ((s.data.toList.drop a).take (spn isD (s.data.toList.drop a)))
        · go_wp2_with fail
          exact bodyPost_ret (v := .tuple #[tv 0 ⟨#[]⟩ 0, .int .i64 4]) (by simp [results, Tryd.results34, go_sem]) rfl ⟨0, _, 0, rfl, below1 _ _⟩
        · have HL3 := Lib.hid (HL2.out hq)
          go_wp2_with (first | (go_at_call 45; refine (rletter_any _ _).mono ?_; rintro e w' ⟨rfl, rfl⟩; rw [HL3.out]))
          exact bodyPost_ret (v := .tuple #[tv 0 ⟨#[]⟩ 0, .int .i64 4]) (by simp [results, Tryd.results34, go_sem]) rfl ⟨0, _, 0, rfl, below1 _ _⟩
      · have HP := Lib.hid hp
        clear hp
        go_wp2_with (first | (go_at_call 46; refine (rdigit_any _ _).mono ?_; rintro e w' ⟨rfl, rfl⟩; rw [HP.out]))
        go_round
        case rel => exact ⟨m + 1, by omega, by omega, by have := spn_more _ _ _ HK.out (by simp; omega) (by rw [HB.out]; exact HP.out); omega, by go_num⟩
        case measure => simp [intOf]; omega
    · have hd : decide ((m : Int) < (s.size : Int)) = false := by simp; omega
      have HE : Hid (m - a = spn isD (s.data.toList.drop a)) := spn_stop _ _ _ HK.out (fun g => by simp at g; omega)
      have HI := Lib.hid (rint_ext s a m hs ham hms HE.out hpos)
      go_wp2_with fail
      refine (HI.out _).mono ?_
      rintro e w' ⟨v, rfl, rfl⟩
      cases hq : numOk ((s.data.toList.drop a).take (spn isD (s.data.toList.drop a)))
      · go_wp2_with fail
        exact bodyPost_ret (v := .tuple #[tv 0 ⟨#[]⟩ 0, .int .i64 4]) (by simp [results, Tryd.results34, go_sem]) rfl ⟨0, _, 0, rfl, below1 _ _⟩
      · have h9 := HN.out hq
        rw [hd_none ham HE.out hin] at h9
        cases h9
end Go.Proofs.YtaalgkcbknlccaaDoor
