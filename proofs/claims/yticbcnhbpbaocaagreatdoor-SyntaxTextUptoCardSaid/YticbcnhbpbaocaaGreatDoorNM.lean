/-
  The walks of the specification's Integer, operator, next, All and Scan.
-/
import Derived.Test.YticbcnhbpbaocaaGreatDoorWD
import Derived.Test.YticbcnhbpbaocaaGreatDoorMA

namespace Go.Proofs.YticbcnhbpbaocaaGreatDoor.V
open Go.RowKit M

/-- An integer and whether it is one. -/
def IntRes (b : Bool) (w : World) (e : Ending) (w' : World) : Prop := ∃ v : Int, e = .returned (.tuple #[.int .i64 v, .bool b]) ∧ w = w'

theorem int_res {v : Int} {a b : Bool} (h : a = b) : Ending.returned (.tuple #[.int .i64 v, .bool a]) = .returned (.tuple #[.int .i64 v, .bool b]) := by rw [h]
theorem dec_cast (V : Nat) : decide ((V : Int) < 9223372036854775808) = decide (V < 9223372036854775808) := by
  rw [Bool.eq_iff_iff, decide_eq_true_iff, decide_eq_true_iff]; omega

section
variable (t : ByteArray) (w : World)
set_option maxRecDepth 100000 in
theorem rint_long (hne : t.toList.isEmpty = false) (hm : t.size ≤ 20000) (hl : 19 < t.size) : Calls Tryz.prog 78 #[.string t] w (IntRes false w) := by
  have h1 : (19 : Int) < (t.size : Int) := by omega
  have h2 : ¬ t.toList = [] := by intro e; rw [e] at hne; cases hne
  go_enter Tryz.func78, Tryz.ntmps78
  go_wp2
  go_ret2
  exact ⟨_, rfl, rfl⟩
set_option maxRecDepth 100000 in
theorem rint_zero (hne : t.toList.isEmpty = false) (hm : t.size ≤ 19) (hl : 1 < t.size) (h48 : ((t[0].toNat : Int) == 48) = true) : Calls Tryz.prog 78 #[.string t] w (IntRes false w) := by
  have h1 : decide ((19 : Int) < (t.size : Int)) = false := by simp; omega
  have h3 : (1 : Int) < (t.size : Int) := by omega
  have h4 : 0 < t.size := by omega
  have h2 : ¬ t.toList = [] := by intro e; rw [e] at hne; cases hne
  go_enter Tryz.func78, Tryz.ntmps78
  go_wp2
  go_ret2
  exact ⟨_, rfl, rfl⟩
end
set_option maxRecDepth 100000 in
set_option maxHeartbeats 1000000 in
theorem rint_loop (t : ByteArray) (w : World) (hne : t.toList.isEmpty = false) (hm : t.size ≤ 19) (h0 : 0 < t.size) (b : Bool) (hl : b = decide (1 < t.size)) (h48 : b = true → ((t[0].toNat : Int) == 48) = false) (hd : ∀ c ∈ t.data.toList, isD c.toNat = true) :
    Calls Tryz.prog 78 #[.string t] w (IntRes (decide (val t.data.toList < 9223372036854775808)) w) := by
  have h1 : decide ((19 : Int) < (t.size : Int)) = false := by simp; omega
  have h2 : ¬ t.toList = [] := by intro e; rw [e] at hne; cases hne
  have HD := Lib.hid hd
  clear hd
  cases b
  all_goals
    have h3 : decide (1 < t.size) = _ := hl.symm
    have h48' := h48
    clear hl h48
    first
      | (have h4 := h48' rfl; have h5 : (1 : Int) < (t.size : Int) := by simp at h3; omega)
      | (have h5 : decide ((1 : Int) < (t.size : Int)) = false := by simp at h3 ⊢; omega)
    clear h48' h3
    go_enter Tryz.func78, Tryz.ntmps78
    go_wp2_with fail
    go_loop [4, 5] (fun n i => ∃ k : Nat, k ≤ t.size ∧ i = .int .i64 k ∧ n = .int .u64 (valF 0 (t.data.toList.take k))) (fun _ i => t.size - (intOf i).toNat)
    case atStart => exact ⟨0, Nat.zero_le _, rfl, rfl⟩
    case round =>
      obtain ⟨k, hk, rfl, rfl⟩ := hrel
      by_cases hkl : k < t.size
      · have hkl2 : k < t.data.toList.length := by rw [← size_list]; exact hkl
        have hbd := valF_bd _ HD.out k (by omega)
        have hst := Lib.hid (valF_take t.data.toList k hkl2)
        have hge : t.data.toList[k] = t[k] := by simp; rfl
        have hdg := digit_bd (HD.out _ (List.getElem_mem hkl2))
        have hdv := Lib.hid (HD.out _ (List.getElem_mem hkl2))
        rw [hge] at hst hdg hdv
        generalize valF 0 (t.data.toList.take k) = V at *
        obtain ⟨d, hdd⟩ : ∃ d, t[k].toNat = d := ⟨_, rfl⟩
        rw [hdd] at hst hdg hdv
        have hk1 : (k : Int) < (t.size : Int) := by omega
        have b1 : (48 : Int) ≤ (d : Int) := by omega
        have b2 : (d : Int) ≤ 57 := by omega
        have b3 : (V : Int) ≤ 999999999999999999 := by omega
        clear hge
        go_wp2_with (go_at_call 66; refine (rdigit_any _ _).mono ?_; rintro e w' ⟨rfl, rfl⟩; rw [hdv.out])
        go_round
        case rel => exact ⟨k + 1, by omega, by go_num, by rw [hst.out]; congr 1; omega⟩
        case measure => simp [intOf]; omega
      · obtain rfl : k = t.size := by omega
        have e : valF 0 (t.data.toList.take t.size) = val t.data.toList := by rw [List.take_of_length_le (by rw [size_list]; exact Nat.le_refl _)]; rfl
        have hb := valF_lt t.data.toList 0 HD.out
        rw [← size_list] at hb
        have h10 : 10 ^ t.size ≤ 10 ^ 19 := Nat.pow_le_pow_right (by omega) hm
        have h19 : (10 : Nat) ^ 19 = 10000000000000000000 := by decide
        have e3 : valF 0 t.data.toList = val t.data.toList := rfl
        rw [e3] at hb
        rw [e]
        clear e e3
        generalize val t.data.toList = V at *
        have hV : (V : Int) < 18446744073709551616 := by omega
        clear hb h10 h19
        go_wp2
        go_ret2
        exact ⟨wrap64 (V : Int), int_res (dec_cast V), rfl⟩

theorem rint_any (t : ByteArray) (w : World) (hne : t.data.toList ≠ []) (hm : t.size ≤ 20000) (hd : ∀ c ∈ t.data.toList, isD c.toNat = true) :
    Calls Tryz.prog 78 #[.string t] w (IntRes (numOk t.data.toList) w) := by
  have h0 : 0 < t.size := by
    rw [size_list]
    exact List.length_pos_iff.2 hne
  have hi : t.toList.isEmpty = false := by rw [ByteArray.toList_eq, List.isEmpty_eq_false_iff]; exact hne
  obtain ⟨c, r, hcr⟩ := List.exists_cons_of_ne_nil hne
  have hc := get0 hcr h0
  have hlen := size_list t
  by_cases hl : 19 < t.size
  · rw [num_long _ hd (by omega)]
    exact rint_long t w hi hm hl
  · by_cases hz : 1 < t.data.toList.length ∧ t.data.toList.head? = some 48
    · rw [num_zero hz.1 hz.2]
      refine rint_zero t w hi (by omega) (by omega) ?_
      rw [hc]
      rw [hcr, List.head?_cons] at hz
      have : c = 48 := Option.some.inj hz.2
      rw [this]; rfl
    · rw [num_else hz]
      refine rint_loop t w hi (by omega) h0 _ rfl (fun hb => ?_) hd
      rw [hc]
      simp only [decide_eq_true_eq] at hb
      simp
      intro e
      apply hz
      refine ⟨by omega, ?_⟩
      rw [hcr, List.head?_cons]
      have : c.toNat = 48 := by omega
      rw [UInt8.toNat_inj.1 (show c.toNat = (48 : UInt8).toNat from this)]
end Go.Proofs.YticbcnhbpbaocaaGreatDoor.V

namespace Go.Proofs.YticbcnhbpbaocaaGreatDoor.V
open Go.RowKit M

theorem clash {x : Bool} (h1 : x = true) (h2 : x = false) : False := by rw [h1] at h2; cases h2
theorem ret_str {a b : ByteArray} (h : a = b) : Ending.returned (.string a) = .returned (.string b) := by rw [h]
theorem ext0 (s : ByteArray) (n : Nat) : (s.extract 0 n).toList = s.data.toList.take n := by
  have := ext_toList s 0 n
  simpa using this
theorem op_two {s : ByteArray} {p : Bs} (h : ((s.extract 0 2).toList == p) = true) (hp : ops2.contains p = true) : s.extract 0 2 = s.extract 0 (opOf s.data.toList) := by
  rw [beq_iff_eq, ext0] at h
  unfold opOf
  rw [h, if_pos hp]
theorem op_two_bad {s : ByteArray} {p : Bs} (h : ((s.extract 0 2).toList == p) = true) (hp : p.length = 1) (hs : 2 ≤ s.size) : False := by
  rw [beq_iff_eq, ext0] at h
  have := congrArg List.length h
  rw [List.length_take, hp, ← size_list] at this
  omega
theorem op_one {s : ByteArray} {p : Bs} (h : ((s.extract 0 1).toList == p) = true) (hp : ops1.contains p = true) (h2 : ops2.contains (s.data.toList.take 2) = false) : s.extract 0 1 = s.extract 0 (opOf s.data.toList) := by
  rw [beq_iff_eq, ext0] at h
  unfold opOf
  rw [if_neg (by rw [h2]; exact Bool.false_ne_true), h, if_pos hp]
theorem op_one_bad {s : ByteArray} {p : Bs} (h : ((s.extract 0 1).toList == p) = true) (hp : p.length = 2) : False := by
  rw [beq_iff_eq, ext0] at h
  have := congrArg List.length h
  rw [List.length_take, hp] at this
  omega
theorem op_no {s : ByteArray} (h2 : ops2.contains (s.data.toList.take 2) = false) (h1 : ops1.contains (s.data.toList.take 1) = false) : (⟨#[]⟩ : ByteArray) = s.extract 0 (opOf s.data.toList) := by
  unfold opOf
  rw [if_neg (by rw [h2]; exact Bool.false_ne_true), if_neg (by rw [h1]; exact Bool.false_ne_true)]
  refine Go.WideShapes.bytes_inj ?_
  have := ext0 s 0
  rw [ByteArray.toList_eq] at this
  rw [this]; rfl
theorem two_short {s : ByteArray} (h : s.size < 2) : ops2.contains (s.data.toList.take 2) = false := by
  rw [← Bool.not_eq_true]
  intro g
  obtain ⟨j, hj, e⟩ := mem2 _ (by simpa using g)
  have := (len2 j hj).1
  rw [e, List.length_take, ← size_list] at this
  omega
theorem one_short {s : ByteArray} (h : s.size < 1) : ops1.contains (s.data.toList.take 1) = false := by
  rw [← Bool.not_eq_true]
  intro g
  obtain ⟨j, hj, hj2, e⟩ := mem1 _ (by simpa using g)
  have := (len1 j hj hj2).1
  rw [e, List.length_take, ← size_list] at this
  omega
theorem no_two {s : ByteArray} (h : ops2.contains (s.extract 0 2).toList = false) : ops2.contains (s.data.toList.take 2) = false := by rw [← ext0]; exact h
theorem no_one {s : ByteArray} (h : ops1.contains (s.extract 0 1).toList = false) : ops1.contains (s.data.toList.take 1) = false := by rw [← ext0]; exact h

set_option maxRecDepth 100000 in
set_option maxHeartbeats 4000000 in
theorem rop_any (s : ByteArray) (w : World) (hs : s.size ≤ 20000) :
    Calls Tryz.prog 79 #[.string s] w fun e w' => e = .returned (.string (s.extract 0 (opOf s.data.toList))) ∧ w = w' := by
  go_enter Tryz.func79, Tryz.ntmps79
  go_wp2
  go_loop [3] (fun i => i = .int .i64 2 ∨ (i = .int .i64 1 ∧ ops2.contains (s.data.toList.take 2) = false) ∨ (i = .int .i64 0 ∧ ops2.contains (s.data.toList.take 2) = false ∧ ops1.contains (s.data.toList.take 1) = false)) (fun i => (intOf i).toNat)
  case atStart => exact .inl rfl
  case round =>
    rcases hrel with rfl | ⟨rfl, h2⟩ | ⟨rfl, h2, h1⟩
    · by_cases hl : s.size < 2
      · have hd : decide ((s.size : Int) < 2) = true := by simp; omega
        have H2 := Lib.hid (two_short hl)
        go_wp2
        go_round
        case rel => exact .inr (.inl ⟨rfl, H2.out⟩)
        case measure => simp [intOf]
      · have hd : decide ((s.size : Int) < 2) = false := by simp; omega
        have hd2 : (2 : Int) ≤ (s.size : Int) := by omega
        have HL : Hid (2 ≤ s.size) := Lib.hid (by omega)
        clear hl
        go_wp2
        all_goals first
          | (go_ret; exact ⟨ret_str (op_two (by assumption) (by decide)), rfl⟩)
          | (exact (op_two_bad (by assumption) rfl HL.out).elim)
          | (exact (clash (by assumption) (by assumption)).elim)
          | (go_round
             case rel => exact .inr (.inl ⟨rfl, no_two (by simp only [ops2, List.contains_cons, List.contains_nil, Bool.or_self, *])⟩)
             case measure => simp [intOf])
    · have H2 := Lib.hid h2
      clear h2
      by_cases hl : s.size < 1
      · have hd : decide ((s.size : Int) < 1) = true := by simp; omega
        have H1 := Lib.hid (one_short hl)
        go_wp2
        go_round
        case rel => exact .inr (.inr ⟨rfl, H2.out, H1.out⟩)
        case measure => simp [intOf]
      · have hd : decide ((s.size : Int) < 1) = false := by simp; omega
        have hd2 : (1 : Int) ≤ (s.size : Int) := by omega
        clear hl
        go_wp2
        all_goals first
          | (go_ret; exact ⟨ret_str (op_one (by assumption) (by decide) H2.out), rfl⟩)
          | (exact (op_one_bad (by assumption) rfl).elim)
          | (exact (clash (by assumption) (by assumption)).elim)
          | (go_round
             case rel => exact .inr (.inr ⟨rfl, H2.out, no_one (by simp only [ops1, List.contains_cons, List.contains_nil, Bool.or_self, *])⟩)
             case measure => simp [intOf])
    · have H2 := Lib.hid h2
      have H1 := Lib.hid h1
      clear h2 h1
      go_wp2
      go_ret
      exact ⟨ret_str (op_no H2.out H1.out), rfl⟩
end Go.Proofs.YticbcnhbpbaocaaGreatDoor.V

namespace Go.Proofs.YticbcnhbpbaocaaGreatDoor.V
open Go.RowKit M

/-- A token without an error; an error. -/
def RTok (w : World) (k : Nat) (t : ByteArray) (a : Nat) (e : Ending) (w' : World) : Prop := e = .returned (.tuple #[tv k t a, .int .i64 0]) ∧ Below w.heap.size w w'
def RErr (w : World) (err : Nat) (e : Ending) (w' : World) : Prop := ∃ k t a, e = .returned (.tuple #[tv k t a, .int .i64 (err : Int)]) ∧ Below w.heap.size w w'

theorem kwk {x : Bs} {v : Bool} (h : kw x = v) : kwKind x = if v then 3 else 1 := by unfold kwKind; rw [h]
theorem below2 (w : World) (o1 o2 : Obj) : Below w.heap.size w ((w.alloc o1).alloc o2) := ((Below.refl _ _).alloc (Nat.le_refl _) o1).alloc (by simp) o2
theorem below1 (w : World) (o1 : Obj) : Below w.heap.size w (w.alloc o1) := (Below.refl _ _).alloc (Nat.le_refl _) o1

theorem name_end {s : ByteArray} {a m : Nat} {w w' : World} {v : Bool} (h : kw (s.extract a m).toList = v) (ham : a ≤ m) (he : m - a = spn isLD (s.data.toList.drop a)) (hb : Below w.heap.size w w') :
    RTok w (kwKind ((s.data.toList.drop a).take (spn isLD (s.data.toList.drop a)))) (s.extract a (a + spn isLD (s.data.toList.drop a))) a (.returned (.tuple #[tv (if v then 3 else 1) (s.extract a m) a, .int .i64 0])) w' := by
  obtain rfl : m = a + spn isLD (s.data.toList.drop a) := by omega
  refine ⟨?_, hb⟩
  rw [ext_toList] at h
  rw [kwk h]

set_option maxRecDepth 100000 in
set_option maxHeartbeats 2000000 in
theorem rnext_name (s : ByteArray) (a : Nat) (w : World) (hs : s.size ≤ 20000) (ha : a < s.size) (b : Nat) (hb : s[a].toNat = b) (hL : isL b = true) (hn : ¬ 32 < spn isLD (s.data.toList.drop a)) :
    Calls Tryz.prog 57 #[.string s, .int .i64 (a : Int)] w (RTok w (kwKind ((s.data.toList.drop a).take (spn isLD (s.data.toList.drop a)))) (s.extract a (a + spn isLD (s.data.toList.drop a))) a) := by
  have hb0 : (0 : Int) ≤ (a : Int) := by omega
  have hb1 : (a : Int) < (s.size : Int) := by omega
  have HN := Lib.hid hn
  clear hn
  go_enter Tryz.func57, Tryz.ntmps57
  go_wp2_with (go_at_call 64; refine (rletter_any _ _).mono ?_; rintro e w' ⟨rfl, rfl⟩; rw [hL])
  clear hb
  go_loop [6] (fun i => ∃ m : Nat, a ≤ m ∧ m ≤ s.size ∧ m - a ≤ spn isLD (s.data.toList.drop a) ∧ i = .int .i64 m) (fun i => s.size - (intOf i).toNat)
  case atStart => exact ⟨a, Nat.le_refl _, by omega, by omega, rfl⟩
  case round =>
    obtain ⟨m, ham, hms, hk, rfl⟩ := hrel
    have HK := Lib.hid hk
    clear hk
    have hm2 : (a : Int) ≤ (m : Int) := by omega
    have hm3 : (m : Int) ≤ (s.size : Int) := by omega
    by_cases hin : m < s.size
    · have hm0 : (0 : Int) ≤ (m : Int) := by omega
      have hm1 : (m : Int) < (s.size : Int) := by omega
      have HB := Lib.hid (byte_drop2 s a m ham hin)
      obtain ⟨c, hc⟩ : ∃ c, s[m].toNat = c := ⟨_, rfl⟩
      rw [hc] at HB
      cases hp : isLD c
      · have hp1 : isL c = false := by unfold isLD at hp; simp at hp; exact hp.1
        have hp2 : isD c = false := by unfold isLD at hp; simp at hp; exact hp.2
        have HE : Hid (m - a = spn isLD (s.data.toList.drop a)) := spn_stop _ _ _ HK.out (fun _ => by rw [HB.out]; exact hp)
        clear hp
        have hfact : decide ((32 : Int) < ((m - a : Nat) : Int)) = false := by have := HE.out; have := HN.out; simp; omega
        go_wp2_with (first | (go_at_call 64; refine (rletter_any _ _).mono ?_; rintro e w' ⟨rfl, rfl⟩; rw [hp1]) | (go_at_call 66; refine (rdigit_any _ _).mono ?_; rintro e w' ⟨rfl, rfl⟩; rw [hp2]) | (go_at_call 65; refine (rkeyword_any _ _).mono ?_; rintro e w' ⟨rfl, rfl⟩))
        · have hk := Lib.hid (show kw (s.extract a m).toList = true by assumption)
          exact bodyPost_ret (v := .tuple #[tv (if true then 3 else 1) (s.extract a m) a, .int .i64 0]) (by simp [results, Tryz.results57, go_sem]) rfl (name_end hk.out ham HE.out (below2 _ _ _))
        · have hk := Lib.hid (show kw (s.extract a m).toList = false by assumption)
          exact bodyPost_ret (v := .tuple #[tv (if false then 3 else 1) (s.extract a m) a, .int .i64 0]) (by simp [results, Tryz.results57, go_sem]) rfl (name_end hk.out ham HE.out (below2 _ _ _))
      · have HP := Lib.hid hp
        cases hp1 : isL c
        · have hp2 : isD c = true := by unfold isLD at hp; rw [hp1] at hp; simpa using hp
          clear hp
          go_wp2_with (first | (go_at_call 64; refine (rletter_any _ _).mono ?_; rintro e w' ⟨rfl, rfl⟩; rw [hp1]) | (go_at_call 66; refine (rdigit_any _ _).mono ?_; rintro e w' ⟨rfl, rfl⟩; rw [hp2]))
          go_round
          case rel => exact ⟨m + 1, by omega, by omega, by have := spn_more _ _ _ HK.out (by simp; omega) (by rw [HB.out]; exact HP.out); omega, by go_num⟩
          case measure => simp [intOf]; omega
        · clear hp
          go_wp2_with (first | (go_at_call 64; refine (rletter_any _ _).mono ?_; rintro e w' ⟨rfl, rfl⟩; rw [hp1]))
          go_round
          case rel => exact ⟨m + 1, by omega, by omega, by have := spn_more _ _ _ HK.out (by simp; omega) (by rw [HB.out]; exact HP.out); omega, by go_num⟩
          case measure => simp [intOf]; omega
    · have hd : decide ((m : Int) < (s.size : Int)) = false := by simp; omega
      have HE : Hid (m - a = spn isLD (s.data.toList.drop a)) := spn_stop _ _ _ HK.out (fun g => by simp at g; omega)
      have hfact : decide ((32 : Int) < ((m - a : Nat) : Int)) = false := by have := HE.out; have := HN.out; simp; omega
      go_wp2_with (first | (go_at_call 65; refine (rkeyword_any _ _).mono ?_; rintro e w' ⟨rfl, rfl⟩))
      · have hk := Lib.hid (show kw (s.extract a m).toList = true by assumption)
        exact bodyPost_ret (v := .tuple #[tv (if true then 3 else 1) (s.extract a m) a, .int .i64 0]) (by simp [results, Tryz.results57, go_sem]) rfl (name_end hk.out ham HE.out (below2 _ _ _))
      · have hk := Lib.hid (show kw (s.extract a m).toList = false by assumption)
        exact bodyPost_ret (v := .tuple #[tv (if false then 3 else 1) (s.extract a m) a, .int .i64 0]) (by simp [results, Tryz.results57, go_sem]) rfl (name_end hk.out ham HE.out (below2 _ _ _))
set_option maxRecDepth 100000 in
set_option maxHeartbeats 2000000 in
theorem rnext_long (s : ByteArray) (a : Nat) (w : World) (hs : s.size ≤ 20000) (ha : a < s.size) (b : Nat) (hb : s[a].toNat = b) (hL : isL b = true) (hn : 32 < spn isLD (s.data.toList.drop a)) :
    Calls Tryz.prog 57 #[.string s, .int .i64 (a : Int)] w (RErr w 3) := by
  have hb0 : (0 : Int) ≤ (a : Int) := by omega
  have hb1 : (a : Int) < (s.size : Int) := by omega
  have HN := Lib.hid hn
  clear hn
  go_enter Tryz.func57, Tryz.ntmps57
  go_wp2_with (go_at_call 64; refine (rletter_any _ _).mono ?_; rintro e w' ⟨rfl, rfl⟩; rw [hL])
  clear hb
  go_loop [6] (fun i => ∃ m : Nat, a ≤ m ∧ m ≤ s.size ∧ m - a ≤ spn isLD (s.data.toList.drop a) ∧ i = .int .i64 m) (fun i => s.size - (intOf i).toNat)
  case atStart => exact ⟨a, Nat.le_refl _, by omega, by omega, rfl⟩
  case round =>
    obtain ⟨m, ham, hms, hk, rfl⟩ := hrel
    have HK := Lib.hid hk
    clear hk
    have hm2 : (a : Int) ≤ (m : Int) := by omega
    have hm3 : (m : Int) ≤ (s.size : Int) := by omega
    by_cases hin : m < s.size
    · have hm0 : (0 : Int) ≤ (m : Int) := by omega
      have hm1 : (m : Int) < (s.size : Int) := by omega
      have HB := Lib.hid (byte_drop2 s a m ham hin)
      obtain ⟨c, hc⟩ : ∃ c, s[m].toNat = c := ⟨_, rfl⟩
      rw [hc] at HB
      cases hp : isLD c
      · have hp1 : isL c = false := by unfold isLD at hp; simp at hp; exact hp.1
        have hp2 : isD c = false := by unfold isLD at hp; simp at hp; exact hp.2
        have HE : Hid (m - a = spn isLD (s.data.toList.drop a)) := spn_stop _ _ _ HK.out (fun _ => by rw [HB.out]; exact hp)
        clear hp
        have hfact : (32 : Int) < ((m - a : Nat) : Int) := by have := HE.out; have := HN.out; simp; omega
        go_wp2_with (first | (go_at_call 64; refine (rletter_any _ _).mono ?_; rintro e w' ⟨rfl, rfl⟩; rw [hp1]) | (go_at_call 66; refine (rdigit_any _ _).mono ?_; rintro e w' ⟨rfl, rfl⟩; rw [hp2]) | (go_at_call 65; refine (rkeyword_any _ _).mono ?_; rintro e w' ⟨rfl, rfl⟩))
        · exact bodyPost_ret (v := .tuple #[tv 3 (s.extract a m) a, .int .i64 3]) (by simp [results, Tryz.results57, go_sem]) rfl ⟨3, _, _, rfl, below2 _ _ _⟩
        · exact bodyPost_ret (v := .tuple #[tv 1 (s.extract a m) a, .int .i64 3]) (by simp [results, Tryz.results57, go_sem]) rfl ⟨1, _, _, rfl, below2 _ _ _⟩
      · have HP := Lib.hid hp
        cases hp1 : isL c
        · have hp2 : isD c = true := by unfold isLD at hp; rw [hp1] at hp; simpa using hp
          clear hp
          go_wp2_with (first | (go_at_call 64; refine (rletter_any _ _).mono ?_; rintro e w' ⟨rfl, rfl⟩; rw [hp1]) | (go_at_call 66; refine (rdigit_any _ _).mono ?_; rintro e w' ⟨rfl, rfl⟩; rw [hp2]))
          go_round
          case rel => exact ⟨m + 1, by omega, by omega, by have := spn_more _ _ _ HK.out (by simp; omega) (by rw [HB.out]; exact HP.out); omega, by go_num⟩
          case measure => simp [intOf]; omega
        · clear hp
          go_wp2_with (first | (go_at_call 64; refine (rletter_any _ _).mono ?_; rintro e w' ⟨rfl, rfl⟩; rw [hp1]))
          go_round
          case rel => exact ⟨m + 1, by omega, by omega, by have := spn_more _ _ _ HK.out (by simp; omega) (by rw [HB.out]; exact HP.out); omega, by go_num⟩
          case measure => simp [intOf]; omega
    · have hd : decide ((m : Int) < (s.size : Int)) = false := by simp; omega
      have HE : Hid (m - a = spn isLD (s.data.toList.drop a)) := spn_stop _ _ _ HK.out (fun g => by simp at g; omega)
      have hfact : (32 : Int) < ((m - a : Nat) : Int) := by have := HE.out; have := HN.out; simp; omega
      go_wp2_with (first | (go_at_call 65; refine (rkeyword_any _ _).mono ?_; rintro e w' ⟨rfl, rfl⟩))
      · exact bodyPost_ret (v := .tuple #[tv 3 (s.extract a m) a, .int .i64 3]) (by simp [results, Tryz.results57, go_sem]) rfl ⟨3, _, _, rfl, below2 _ _ _⟩
      · exact bodyPost_ret (v := .tuple #[tv 1 (s.extract a m) a, .int .i64 3]) (by simp [results, Tryz.results57, go_sem]) rfl ⟨1, _, _, rfl, below2 _ _ _⟩
theorem rint_ext (s : ByteArray) (a m : Nat) (hs : s.size ≤ 20000) (ham : a ≤ m) (hms : m ≤ s.size) (he : m - a = spn isD (s.data.toList.drop a)) (hpos : 1 ≤ spn isD (s.data.toList.drop a)) (w : World) :
    Calls Tryz.prog 78 #[.string (s.extract a m)] w (IntRes (numOk ((s.data.toList.drop a).take (spn isD (s.data.toList.drop a)))) w) := by
  obtain rfl : m = a + spn isD (s.data.toList.drop a) := by omega
  have := rint_any (s.extract a (a + spn isD (s.data.toList.drop a))) w (by
    rw [ext_list]
    intro e
    have := congrArg List.length e
    simp at this
    omega) (by simp; omega) (by rw [ext_list]; exact spn_all isD _)
  rw [ext_list] at this
  exact this
theorem int_end {s : ByteArray} {a m : Nat} {w w' : World} (ham : a ≤ m) (he : m - a = spn isD (s.data.toList.drop a)) (hb : Below w.heap.size w w') :
    RTok w 2 (s.extract a (a + spn isD (s.data.toList.drop a))) a (.returned (.tuple #[tv 2 (s.extract a m) a, .int .i64 0])) w' := by
  obtain rfl : m = a + spn isD (s.data.toList.drop a) := by omega
  exact ⟨rfl, hb⟩
theorem hd_rest {s : ByteArray} {a m : Nat} (ham : a ≤ m) (he : m - a = spn isD (s.data.toList.drop a)) (h : m < s.size) : hdL ((s.data.toList.drop a).drop (spn isD (s.data.toList.drop a))) = isL s[m].toNat := by
  obtain rfl : m = a + spn isD (s.data.toList.drop a) := by omega
  rw [List.drop_drop, drop_at s _ h]; rfl
theorem hd_none {s : ByteArray} {a m : Nat} (ham : a ≤ m) (he : m - a = spn isD (s.data.toList.drop a)) (h : ¬ m < s.size) : hdL ((s.data.toList.drop a).drop (spn isD (s.data.toList.drop a))) = false := by
  obtain rfl : m = a + spn isD (s.data.toList.drop a) := by omega
  rw [List.drop_drop, List.drop_of_length_le (by simp; omega)]; rfl

set_option maxRecDepth 100000 in
set_option maxHeartbeats 2000000 in
theorem rnext_int (s : ByteArray) (a : Nat) (w : World) (hs : s.size ≤ 20000) (ha : a < s.size) (b : Nat) (hb : s[a].toNat = b) (hL : isL b = false) (hD : isD b = true) (hn : numOk ((s.data.toList.drop a).take (spn isD (s.data.toList.drop a))) = true ∧ hdL ((s.data.toList.drop a).drop (spn isD (s.data.toList.drop a))) = false) :
    Calls Tryz.prog 57 #[.string s, .int .i64 (a : Int)] w (RTok w 2 (s.extract a (a + spn isD (s.data.toList.drop a))) a) := by
  have hb0 : (0 : Int) ≤ (a : Int) := by omega
  have hb1 : (a : Int) < (s.size : Int) := by omega
  have HN := Lib.hid hn
  have hpos : 1 ≤ spn isD (s.data.toList.drop a) := by rw [drop_at s a ha, spn_cons, if_pos (by rw [hb]; exact hD)]; omega
  clear hn
  go_enter Tryz.func57, Tryz.ntmps57
  go_wp2_with (first | (go_at_call 64; refine (rletter_any _ _).mono ?_; rintro e w' ⟨rfl, rfl⟩; rw [hL]) | (go_at_call 66; refine (rdigit_any _ _).mono ?_; rintro e w' ⟨rfl, rfl⟩; rw [hD]))
  clear hb
  go_loop [6] (fun i => ∃ m : Nat, a ≤ m ∧ m ≤ s.size ∧ m - a ≤ spn isD (s.data.toList.drop a) ∧ i = .int .i64 m) (fun i => s.size - (intOf i).toNat)
  case atStart => exact ⟨a, Nat.le_refl _, by omega, by omega, rfl⟩
  case round =>
    obtain ⟨m, ham, hms, hk, rfl⟩ := hrel
    have HK := Lib.hid hk
    clear hk
    have hm2 : (a : Int) ≤ (m : Int) := by omega
    have hm3 : (m : Int) ≤ (s.size : Int) := by omega
    by_cases hin : m < s.size
    · have hm0 : (0 : Int) ≤ (m : Int) := by omega
      have hm1 : (m : Int) < (s.size : Int) := by omega
      have HB := Lib.hid (byte_drop2 s a m ham hin)
      cases hp : isD s[m].toNat
      · have HE : Hid (m - a = spn isD (s.data.toList.drop a)) := spn_stop _ _ _ HK.out (fun _ => by rw [HB.out]; exact hp)
        have HP := Lib.hid hp
        clear hp
        have HI := Lib.hid (rint_ext s a m hs ham hms HE.out hpos)
        go_wp2_with (first | (go_at_call 66; refine (rdigit_any _ _).mono ?_; rintro e w' ⟨rfl, rfl⟩; rw [HP.out]))
        refine (HI.out _).mono ?_
        rintro e w' ⟨v, rfl, rfl⟩
        rw [HN.out.1]
        have HL2 : Hid (isL s[m].toNat = false) := by have := HN.out.2; rw [hd_rest ham HE.out hin] at this; exact this
        go_wp2_with (first | (go_at_call 64; refine (rletter_any _ _).mono ?_; rintro e w' ⟨rfl, rfl⟩; rw [HL2.out]))
        exact bodyPost_ret (v := .tuple #[tv 2 (s.extract a m) a, .int .i64 0]) (by simp [results, Tryz.results57, go_sem]) rfl (int_end ham HE.out (below1 _ _))
      · have HP := Lib.hid hp
        clear hp
        go_wp2_with (first | (go_at_call 66; refine (rdigit_any _ _).mono ?_; rintro e w' ⟨rfl, rfl⟩; rw [HP.out]))
        go_round
        case rel => exact ⟨m + 1, by omega, by omega, by have := spn_more _ _ _ HK.out (by simp; omega) (by rw [HB.out]; exact HP.out); omega, by go_num⟩
        case measure => simp [intOf]; omega
    · have hd : decide ((m : Int) < (s.size : Int)) = false := by simp; omega
      have HE : Hid (m - a = spn isD (s.data.toList.drop a)) := spn_stop _ _ _ HK.out (fun g => by simp at g; omega)
      have HI := Lib.hid (rint_ext s a m hs ham hms HE.out hpos)
      go_wp2_with fail
      refine (HI.out _).mono ?_
      rintro e w' ⟨v, rfl, rfl⟩
      rw [HN.out.1]
      go_wp2_with fail
      exact bodyPost_ret (v := .tuple #[tv 2 (s.extract a m) a, .int .i64 0]) (by simp [results, Tryz.results57, go_sem]) rfl (int_end ham HE.out (below1 _ _))
set_option maxRecDepth 100000 in
set_option maxHeartbeats 2000000 in
theorem rnext_noint (s : ByteArray) (a : Nat) (w : World) (hs : s.size ≤ 20000) (ha : a < s.size) (b : Nat) (hb : s[a].toNat = b) (hL : isL b = false) (hD : isD b = true) (hn : numOk ((s.data.toList.drop a).take (spn isD (s.data.toList.drop a))) = true → hdL ((s.data.toList.drop a).drop (spn isD (s.data.toList.drop a))) = true) :
    Calls Tryz.prog 57 #[.string s, .int .i64 (a : Int)] w (RErr w 4) := by
  have hb0 : (0 : Int) ≤ (a : Int) := by omega
  have hb1 : (a : Int) < (s.size : Int) := by omega
  have HN := Lib.hid hn
  have hpos : 1 ≤ spn isD (s.data.toList.drop a) := by rw [drop_at s a ha, spn_cons, if_pos (by rw [hb]; exact hD)]; omega
  clear hn
  go_enter Tryz.func57, Tryz.ntmps57
  go_wp2_with (first | (go_at_call 64; refine (rletter_any _ _).mono ?_; rintro e w' ⟨rfl, rfl⟩; rw [hL]) | (go_at_call 66; refine (rdigit_any _ _).mono ?_; rintro e w' ⟨rfl, rfl⟩; rw [hD]))
  clear hb
  go_loop [6] (fun i => ∃ m : Nat, a ≤ m ∧ m ≤ s.size ∧ m - a ≤ spn isD (s.data.toList.drop a) ∧ i = .int .i64 m) (fun i => s.size - (intOf i).toNat)
  case atStart => exact ⟨a, Nat.le_refl _, by omega, by omega, rfl⟩
  case round =>
    obtain ⟨m, ham, hms, hk, rfl⟩ := hrel
    have HK := Lib.hid hk
    clear hk
    have hm2 : (a : Int) ≤ (m : Int) := by omega
    have hm3 : (m : Int) ≤ (s.size : Int) := by omega
    by_cases hin : m < s.size
    · have hm0 : (0 : Int) ≤ (m : Int) := by omega
      have hm1 : (m : Int) < (s.size : Int) := by omega
      have HB := Lib.hid (byte_drop2 s a m ham hin)
      cases hp : isD s[m].toNat
      · have HE : Hid (m - a = spn isD (s.data.toList.drop a)) := spn_stop _ _ _ HK.out (fun _ => by rw [HB.out]; exact hp)
        have HP := Lib.hid hp
        clear hp
        have HI := Lib.hid (rint_ext s a m hs ham hms HE.out hpos)
        go_wp2_with (first | (go_at_call 66; refine (rdigit_any _ _).mono ?_; rintro e w' ⟨rfl, rfl⟩; rw [HP.out]))
        refine (HI.out _).mono ?_
        rintro e w' ⟨v, rfl, rfl⟩
        have HL2 : Hid (numOk ((s.data.toList.drop a).take (spn isD (s.data.toList.drop a))) = true → isL s[m].toNat = true) := fun g => by rw [← hd_rest ham HE.out hin]; exact HN.out g
        cases hq : numOk ((s.data.toList.drop a).take (spn isD (s.data.toList.drop a)))
        · go_wp2_with fail
          exact bodyPost_ret (v := .tuple #[tv 0 ⟨#[]⟩ 0, .int .i64 4]) (by simp [results, Tryz.results57, go_sem]) rfl ⟨0, _, 0, rfl, below1 _ _⟩
        · have HL3 := Lib.hid (HL2.out hq)
          go_wp2_with (first | (go_at_call 64; refine (rletter_any _ _).mono ?_; rintro e w' ⟨rfl, rfl⟩; rw [HL3.out]))
          exact bodyPost_ret (v := .tuple #[tv 0 ⟨#[]⟩ 0, .int .i64 4]) (by simp [results, Tryz.results57, go_sem]) rfl ⟨0, _, 0, rfl, below1 _ _⟩
      · have HP := Lib.hid hp
        clear hp
        go_wp2_with (first | (go_at_call 66; refine (rdigit_any _ _).mono ?_; rintro e w' ⟨rfl, rfl⟩; rw [HP.out]))
        go_round
        case rel => exact ⟨m + 1, by omega, by omega, by have := spn_more _ _ _ HK.out (by simp; omega) (by rw [HB.out]; exact HP.out); omega, by go_num⟩
        case measure => simp [intOf]; omega
    · have hd : decide ((m : Int) < (s.size : Int)) = false := by simp; omega
      have HE : Hid (m - a = spn isD (s.data.toList.drop a)) := spn_stop _ _ _ HK.out (fun g => by simp at g; omega)
      have HI := Lib.hid (rint_ext s a m hs ham hms HE.out hpos)
      go_wp2_with fail
      refine (HI.out _).mono ?_
      rintro e w' ⟨v, rfl, rfl⟩
      cases hq : numOk ((s.data.toList.drop a).take (spn isD (s.data.toList.drop a)))
      · go_wp2_with fail
        exact bodyPost_ret (v := .tuple #[tv 0 ⟨#[]⟩ 0, .int .i64 4]) (by simp [results, Tryz.results57, go_sem]) rfl ⟨0, _, 0, rfl, below1 _ _⟩
      · have h9 := HN.out hq
        rw [hd_none ham HE.out hin] at h9
        cases h9
end Go.Proofs.YticbcnhbpbaocaaGreatDoor.V

namespace Go.Proofs.YticbcnhbpbaocaaGreatDoor.V
open Go.RowKit M

theorem rest_ext (s : ByteArray) (a : Nat) : ((s.extract a s.size).extract 0 (opOf (s.extract a s.size).data.toList)) = s.extract a (a + opOf (s.data.toList.drop a)) := by
  refine Go.WideShapes.bytes_inj ?_
  have h := ext_list (s.extract a s.size) 0 (opOf (s.extract a s.size).data.toList)
  rw [Nat.zero_add] at h
  rw [h, ext_list, rest_list]; rfl
theorem rop_ext (s : ByteArray) (a : Nat) (w : World) (hs : s.size ≤ 20000) :
    Calls Tryz.prog 79 #[.string (s.extract a s.size)] w fun e w' => e = .returned (.string (s.extract a (a + opOf (s.data.toList.drop a)))) ∧ w = w' := by
  have := rop_any (s.extract a s.size) w (by simp; omega)
  rw [rest_ext] at this
  exact this
theorem rop_none (s : ByteArray) (a : Nat) (w : World) (hs : s.size ≤ 20000) (h : opOf (s.data.toList.drop a) = 0) :
    Calls Tryz.prog 79 #[.string (s.extract a s.size)] w fun e w' => e = .returned (.string ⟨#[]⟩) ∧ w = w' := by
  have := rop_ext s a w hs
  rw [h] at this
  have e : s.extract a (a + 0) = ⟨#[]⟩ := Go.WideShapes.bytes_inj (by rw [ext_list]; simp)
  rw [e] at this
  exact this

/-- No comment begins at a. -/
def NoSlash (s : ByteArray) (a b : Nat) : Prop :=
  ((b : Int) == 47) = false ∨ (((b : Int) == 47) = true ∧ decide ((a : Int) + 1 < (s.size : Int)) = false) ∨ (((b : Int) == 47) = true ∧ ∃ h : a + 1 < s.size, ((s[a + 1].toNat : Int) == 47) = false)

set_option maxRecDepth 100000 in
set_option maxHeartbeats 2000000 in
theorem rnext_op (s : ByteArray) (a : Nat) (w : World) (hs : s.size ≤ 20000) (ha : a < s.size) (b : Nat) (hb : s[a].toNat = b) (hL : isL b = false) (hD : isD b = false) (hn : NoSlash s a b) (ho : opOf (s.data.toList.drop a) ≠ 0) :
    Calls Tryz.prog 57 #[.string s, .int .i64 (a : Int)] w (RTok w 4 (s.extract a (a + opOf (s.data.toList.drop a))) a) := by
  have hb0 : (0 : Int) ≤ (a : Int) := by omega
  have hb1 : (a : Int) < (s.size : Int) := by omega
  have hb2 : (a : Int) ≤ (s.size : Int) := by omega
  have hle := opOf_le (s.data.toList.drop a)
  have hne : ¬ (s.extract a (a + opOf (s.data.toList.drop a))).toList = [] := by
    rw [ext_toList]
    intro e
    have := congrArg List.length e
    simp at this hle
    omega
  have hne2 : (s.extract a (a + opOf (s.data.toList.drop a))).toList.isEmpty = false := by simp [hne]
  have H1 := Lib.hid hne
  have H2 := Lib.hid hne2
  clear hne hne2 hle ho
  rcases hn with h1 | ⟨h1, h2⟩ | ⟨h1, h3, h2⟩
  · go_enter Tryz.func57, Tryz.ntmps57
    go_wp2_with (first | (go_at_call 64; refine (rletter_any _ _).mono ?_; rintro e w' ⟨rfl, rfl⟩; rw [hL]) | (go_at_call 66; refine (rdigit_any _ _).mono ?_; rintro e w' ⟨rfl, rfl⟩; rw [hD]))
    refine (rop_ext s a _ hs).mono ?_
    rintro e w' ⟨rfl, rfl⟩
    have hne := H1.out
    have hne2 := H2.out
    go_wp2
    exact bodyPost_ret (v := .tuple #[tv 4 (s.extract a (a + opOf (s.data.toList.drop a))) a, .int .i64 0]) (by simp [results, Tryz.results57, go_sem]) rfl ⟨rfl, below1 _ _⟩
  · go_enter Tryz.func57, Tryz.ntmps57
    go_wp2_with (first | (go_at_call 64; refine (rletter_any _ _).mono ?_; rintro e w' ⟨rfl, rfl⟩; rw [hL]) | (go_at_call 66; refine (rdigit_any _ _).mono ?_; rintro e w' ⟨rfl, rfl⟩; rw [hD]))
    refine (rop_ext s a _ hs).mono ?_
    rintro e w' ⟨rfl, rfl⟩
    have hne := H1.out
    have hne2 := H2.out
    go_wp2
    exact bodyPost_ret (v := .tuple #[tv 4 (s.extract a (a + opOf (s.data.toList.drop a))) a, .int .i64 0]) (by simp [results, Tryz.results57, go_sem]) rfl ⟨rfl, below1 _ _⟩
  · have h4 : (a : Int) + 1 < (s.size : Int) := by omega
    have h5 : (0 : Int) ≤ (a : Int) + 1 := by omega
    have h6 : ((a : Int) + 1).toNat = a + 1 := by omega
    go_enter Tryz.func57, Tryz.ntmps57
    go_wp2_with (first | (go_at_call 64; refine (rletter_any _ _).mono ?_; rintro e w' ⟨rfl, rfl⟩; rw [hL]) | (go_at_call 66; refine (rdigit_any _ _).mono ?_; rintro e w' ⟨rfl, rfl⟩; rw [hD]))
    refine (rop_ext s a _ hs).mono ?_
    rintro e w' ⟨rfl, rfl⟩
    have hne := H1.out
    have hne2 := H2.out
    go_wp2
    exact bodyPost_ret (v := .tuple #[tv 4 (s.extract a (a + opOf (s.data.toList.drop a))) a, .int .i64 0]) (by simp [results, Tryz.results57, go_sem]) rfl ⟨rfl, below1 _ _⟩

set_option maxRecDepth 100000 in
set_option maxHeartbeats 2000000 in
theorem rnext_noop (s : ByteArray) (a : Nat) (w : World) (hs : s.size ≤ 20000) (ha : a < s.size) (b : Nat) (hb : s[a].toNat = b) (hL : isL b = false) (hD : isD b = false) (hn : NoSlash s a b) (ho : opOf (s.data.toList.drop a) = 0) :
    Calls Tryz.prog 57 #[.string s, .int .i64 (a : Int)] w (RErr w 4) := by
  have hb0 : (0 : Int) ≤ (a : Int) := by omega
  have hb1 : (a : Int) < (s.size : Int) := by omega
  have hb2 : (a : Int) ≤ (s.size : Int) := by omega
  have HO := Lib.hid ho
  clear ho
  rcases hn with h1 | ⟨h1, h2⟩ | ⟨h1, h3, h2⟩
  · go_enter Tryz.func57, Tryz.ntmps57
    go_wp2_with (first | (go_at_call 64; refine (rletter_any _ _).mono ?_; rintro e w' ⟨rfl, rfl⟩; rw [hL]) | (go_at_call 66; refine (rdigit_any _ _).mono ?_; rintro e w' ⟨rfl, rfl⟩; rw [hD]))
    refine (rop_none s a _ hs HO.out).mono ?_
    rintro e w' ⟨rfl, rfl⟩
    go_wp2
    exact bodyPost_ret (v := .tuple #[tv 0 ⟨#[]⟩ 0, .int .i64 4]) (by simp [results, Tryz.results57, go_sem]) rfl ⟨0, _, 0, rfl, below1 _ _⟩
  · go_enter Tryz.func57, Tryz.ntmps57
    go_wp2_with (first | (go_at_call 64; refine (rletter_any _ _).mono ?_; rintro e w' ⟨rfl, rfl⟩; rw [hL]) | (go_at_call 66; refine (rdigit_any _ _).mono ?_; rintro e w' ⟨rfl, rfl⟩; rw [hD]))
    refine (rop_none s a _ hs HO.out).mono ?_
    rintro e w' ⟨rfl, rfl⟩
    go_wp2
    exact bodyPost_ret (v := .tuple #[tv 0 ⟨#[]⟩ 0, .int .i64 4]) (by simp [results, Tryz.results57, go_sem]) rfl ⟨0, _, 0, rfl, below1 _ _⟩
  · have h4 : (a : Int) + 1 < (s.size : Int) := by omega
    have h5 : (0 : Int) ≤ (a : Int) + 1 := by omega
    have h6 : ((a : Int) + 1).toNat = a + 1 := by omega
    go_enter Tryz.func57, Tryz.ntmps57
    go_wp2_with (first | (go_at_call 64; refine (rletter_any _ _).mono ?_; rintro e w' ⟨rfl, rfl⟩; rw [hL]) | (go_at_call 66; refine (rdigit_any _ _).mono ?_; rintro e w' ⟨rfl, rfl⟩; rw [hD]))
    refine (rop_none s a _ hs HO.out).mono ?_
    rintro e w' ⟨rfl, rfl⟩
    go_wp2
    exact bodyPost_ret (v := .tuple #[tv 0 ⟨#[]⟩ 0, .int .i64 4]) (by simp [results, Tryz.results57, go_sem]) rfl ⟨0, _, 0, rfl, below1 _ _⟩

theorem cmt_end {s : ByteArray} {a m : Nat} {w w' : World} (ham : a ≤ m) (he : m - a = spn notFeed (s.data.toList.drop a)) (hb : Below w.heap.size w w') :
    RTok w 5 (s.extract a (a + spn notFeed (s.data.toList.drop a))) a (.returned (.tuple #[tv 5 (s.extract a m) a, .int .i64 0])) w' := by
  obtain rfl : m = a + spn notFeed (s.data.toList.drop a) := by omega
  exact ⟨rfl, hb⟩
set_option maxRecDepth 100000 in
set_option maxHeartbeats 2000000 in
theorem rnext_comment (s : ByteArray) (a : Nat) (w : World) (hs : s.size ≤ 20000) (ha : a < s.size) (hb : s[a].toNat = 47) (h3 : a + 1 < s.size) (hb2 : s[a + 1].toNat = 47) :
    Calls Tryz.prog 57 #[.string s, .int .i64 (a : Int)] w (RTok w 5 (s.extract a (a + spn notFeed (s.data.toList.drop a))) a) := by
  have hb0 : (0 : Int) ≤ (a : Int) := by omega
  have hb1 : (a : Int) < (s.size : Int) := by omega
  have h4 : (a : Int) + 1 < (s.size : Int) := by omega
  have h5 : (0 : Int) ≤ (a : Int) + 1 := by omega
  have h6 : ((a : Int) + 1).toNat = a + 1 := by omega
  have hL : isL 47 = false := by decide
  have hD : isD 47 = false := by decide
  go_enter Tryz.func57, Tryz.ntmps57
  go_wp2_with (first | (go_at_call 64; refine (rletter_any 47 _).mono ?_; rintro e w' ⟨rfl, rfl⟩; rw [hL]) | (go_at_call 66; refine (rdigit_any 47 _).mono ?_; rintro e w' ⟨rfl, rfl⟩; rw [hD]))
  clear hb hb2
  go_loop [6] (fun i => ∃ m : Nat, a ≤ m ∧ m ≤ s.size ∧ m - a ≤ spn notFeed (s.data.toList.drop a) ∧ i = .int .i64 m) (fun i => s.size - (intOf i).toNat)
  case atStart => exact ⟨a, Nat.le_refl _, by omega, by omega, rfl⟩
  case round =>
    obtain ⟨m, ham, hms, hk, rfl⟩ := hrel
    have HK := Lib.hid hk
    clear hk
    have hm2 : (a : Int) ≤ (m : Int) := by omega
    have hm3 : (m : Int) ≤ (s.size : Int) := by omega
    by_cases hin : m < s.size
    · have hm0 : (0 : Int) ≤ (m : Int) := by omega
      have hm1 : (m : Int) < (s.size : Int) := by omega
      have HB := Lib.hid (byte_drop2 s a m ham hin)
      obtain ⟨c, hc⟩ : ∃ c, s[m].toNat = c := ⟨_, rfl⟩
      rw [hc] at HB
      by_cases hp : c = 10
      · have hq : ((c : Int) != 10) = false := by simp; omega
        have HE : Hid (m - a = spn notFeed (s.data.toList.drop a)) := spn_stop _ _ _ HK.out (fun _ => by rw [HB.out]; simp [notFeed, hp])
        clear hp
        go_wp2
        exact bodyPost_ret (v := .tuple #[tv 5 (s.extract a m) a, .int .i64 0]) (by simp [results, Tryz.results57, go_sem]) rfl (cmt_end ham HE.out (below1 _ _))
      · have hq : ((c : Int) != 10) = true := by simp; omega
        have HP := Lib.hid hp
        clear hp
        go_wp2
        go_round
        case rel => exact ⟨m + 1, by omega, by omega, by have := spn_more _ _ _ HK.out (by simp; omega) (by rw [HB.out]; simp [notFeed, HP.out]); omega, by go_num⟩
        case measure => simp [intOf]; omega
    · have hd : decide ((m : Int) < (s.size : Int)) = false := by simp; omega
      have HE : Hid (m - a = spn notFeed (s.data.toList.drop a)) := spn_stop _ _ _ HK.out (fun g => by simp at g; omega)
      go_wp2
      exact bodyPost_ret (v := .tuple #[tv 5 (s.extract a m) a, .int .i64 0]) (by simp [results, Tryz.results57, go_sem]) rfl (cmt_end ham HE.out (below1 _ _))
end Go.Proofs.YticbcnhbpbaocaaGreatDoor.V

namespace Go.Proofs.YticbcnhbpbaocaaGreatDoor.V
open Go.RowKit M

theorem noslash_of {s : ByteArray} {a : Nat} (ha : a < s.size) (h : ¬ (s.data.toList.drop a).take 2 = [47, 47]) : NoSlash s a s[a].toNat := by
  by_cases h1 : s[a].toNat = 47
  · by_cases h2 : a + 1 < s.size
    · refine .inr (.inr ⟨by simp; omega, h2, ?_⟩)
      rw [drop_at s a ha, drop_at s (a + 1) h2] at h
      simp
      intro e
      apply h
      have e1 : s[a] = 47 := UInt8.toNat_inj.1 h1
      have e2 : s[a + 1] = 47 := UInt8.toNat_inj.1 (by show _ = 47; omega)
      rw [e1, e2]; rfl
    · exact .inr (.inl ⟨by simp; omega, by simp; omega⟩)
  · exact .inl (by simp; omega)
theorem slash_yes {s : ByteArray} {a : Nat} (ha : a < s.size) (h : (s.data.toList.drop a).take 2 = [47, 47]) : s[a].toNat = 47 ∧ ∃ h : a + 1 < s.size, s[a + 1].toNat = 47 := by
  by_cases h2 : a + 1 < s.size
  · rw [drop_at s a ha, drop_at s (a + 1) h2] at h
    simp at h
    exact ⟨by rw [h.1]; rfl, h2, by rw [h.2]; rfl⟩
  · have := congrArg List.length h
    simp at this
    omega

theorem rnext_ok {s : ByteArray} {a : Nat} (w : World) (hs : s.size ≤ 20000) (ha : a < s.size) {k n : Nat} (hx : nx (s.data.toList.drop a) = (k, n, 0)) :
    Calls Tryz.prog 57 #[.string s, .int .i64 (a : Int)] w (RTok w k (s.extract a (a + n)) a) := by
  rw [nx_at _ _ _ (drop_at s a ha)] at hx
  by_cases c1 : isL s[a].toNat = true
  · rw [if_pos c1] at hx
    by_cases c2 : 32 < spn isLD (s.data.toList.drop a)
    · rw [if_pos c2] at hx; simp at hx
    · rw [if_neg c2] at hx
      simp only [Prod.mk.injEq, and_true] at hx
      obtain ⟨rfl, rfl⟩ := hx
      exact rnext_name s a w hs ha _ rfl c1 c2
  · rw [if_neg c1] at hx
    have c1' : isL s[a].toNat = false := by simpa using c1
    by_cases c2 : isD s[a].toNat = true
    · rw [if_pos c2] at hx
      split at hx
      · rename_i c3
        simp only [Prod.mk.injEq, and_true] at hx
        obtain ⟨rfl, rfl⟩ := hx
        simp only [Bool.and_eq_true, Bool.not_eq_true'] at c3
        exact rnext_int s a w hs ha _ rfl c1' c2 c3
      · simp at hx
    · rw [if_neg c2] at hx
      have c2' : isD s[a].toNat = false := by simpa using c2
      by_cases c3 : (s.data.toList.drop a).take 2 = [47, 47]
      · rw [if_pos c3] at hx
        simp only [Prod.mk.injEq, and_true] at hx
        obtain ⟨rfl, rfl⟩ := hx
        obtain ⟨q1, q2, q3⟩ := slash_yes ha c3
        exact rnext_comment s a w hs ha q1 q2 q3
      · rw [if_neg c3] at hx
        by_cases c4 : opOf (s.data.toList.drop a) = 0
        · rw [if_pos c4] at hx; simp at hx
        · rw [if_neg c4] at hx
          simp only [Prod.mk.injEq, and_true] at hx
          obtain ⟨rfl, rfl⟩ := hx
          exact rnext_op s a w hs ha _ rfl c1' c2' (noslash_of ha c3) c4
theorem rnext_err {s : ByteArray} {a : Nat} (w : World) (hs : s.size ≤ 20000) (ha : a < s.size) (hx : (nx (s.data.toList.drop a)).2.2 ≠ 0) :
    Calls Tryz.prog 57 #[.string s, .int .i64 (a : Int)] w (RErr w (nx (s.data.toList.drop a)).2.2) := by
  rw [nx_at _ _ _ (drop_at s a ha)] at hx ⊢
  by_cases c1 : isL s[a].toNat = true
  · rw [if_pos c1] at hx ⊢
    by_cases c2 : 32 < spn isLD (s.data.toList.drop a)
    · rw [if_pos c2]; exact rnext_long s a w hs ha _ rfl c1 c2
    · rw [if_neg c2] at hx; simp at hx
  · rw [if_neg c1] at hx ⊢
    have c1' : isL s[a].toNat = false := by simpa using c1
    by_cases c2 : isD s[a].toNat = true
    · rw [if_pos c2] at hx ⊢
      split at hx
      · simp at hx
      · rename_i c3
        rw [if_neg c3]
        exact rnext_noint s a w hs ha _ rfl c1' c2 (fun g => by rw [g] at c3; simpa using c3)
    · rw [if_neg c2] at hx ⊢
      have c2' : isD s[a].toNat = false := by simpa using c2
      by_cases c3 : (s.data.toList.drop a).take 2 = [47, 47]
      · rw [if_pos c3] at hx; simp at hx
      · rw [if_neg c3] at hx ⊢
        by_cases c4 : opOf (s.data.toList.drop a) = 0
        · rw [if_pos c4]
          exact rnext_noop s a w hs ha _ rfl c1' c2' (noslash_of ha c3) c4
        · rw [if_neg c4] at hx; simp at hx

theorem rnext_case {a : Nat} {s : ByteArray} (ins : Bool) (w : World) (hs : s.size ≤ 20000) (ha : a < s.size) (h10 : s[a].toNat ≠ 10) (hsep : sep ins s[a].toNat = false) :
    (∃ k n t, Step s a ins k n (after k ins t) t ∧ t.length = n ∧ Calls Tryz.prog 57 #[.string s, .int .i64 (a : Int)] w (RTok w k ⟨t.toArray⟩ a)) ∨
    (∃ err : Nat, err ≠ 0 ∧ toks (s.data.toList.drop a) a ins = ([], a, err) ∧ Calls Tryz.prog 57 #[.string s, .int .i64 (a : Int)] w (RErr w err)) := by
  have hr := drop_at s a ha
  by_cases he : (nx (s.data.toList.drop a)).2.2 = 0
  · have hb := nx_bd _ he
    obtain ⟨k, n, hx⟩ : ∃ k n, nx (s.data.toList.drop a) = (k, n, 0) := ⟨_, _, by rw [← he]⟩
    rw [hx] at hb
    have hc := rnext_ok w hs ha hx
    rw [ext_mk] at hc
    have hb2 : n ≤ s.size - a := by have := hb.2; simp at this; omega
    refine .inl ⟨k, n, _, ⟨hb.1, by omega, ?_⟩, by simp; omega, hc⟩
    have hx2 := hx
    rw [hr] at hx2
    have := toks_tok (a := a) hsep h10 hx2
    rw [← hr, List.drop_drop] at this
    exact this
  · refine .inr ⟨_, he, ?_, rnext_err w hs ha he⟩
    have := toks_err (a := a) hsep h10 (by rw [← hr]; exact he)
    rw [← hr] at this
    exact this

/-! ### the list of tokens and the list of comments -/
def lastE (l : List Tok) : Bool := match l.getLast? with | none => false | some t => endB t.k t.t
theorem lastE_snoc (l : List Tok) (t : Tok) : lastE (l ++ [t]) = endB t.k t.t := by simp [lastE]
def nc (t : Tok) : Bool := !(t.k == 5)
def ic (t : Tok) : Bool := t.k == 5

/-- What holds at a round's head. -/
structure AInv (w : World) (s : ByteArray) (out com : List Tok) (a : Nat) (A1 A2 : Option Addr) (c1 c2 : Nat) (wr : World) : Prop where
  le : a ≤ s.size
  l1 : out.length ≤ a
  l2 : com.length ≤ a
  own1 : wr.ownsRow w.heap.size 65 3 (.slice A1 out.length c1) out.length (cells out)
  own2 : wr.ownsRow w.heap.size 65 3 (.slice A2 com.length c2) com.length (cells com)
  ne : (Value.slice A1 out.length c1).ownBlock = none ∨ (Value.slice A1 out.length c1).ownBlock ≠ (Value.slice A2 com.length c2).ownBlock
  below : Below w.heap.size w wr
  eq : (out ++ (toks (s.data.toList.drop a) a (lastE out)).1.filter nc, com ++ (toks (s.data.toList.drop a) a (lastE out)).1.filter ic, (toks (s.data.toList.drop a) a (lastE out)).2)
    = ((scanAll s.data.toList).1.filter nc, (scanAll s.data.toList).1.filter ic, (scanAll s.data.toList).2)

theorem AInv.keep {w wr w2 : World} {s : ByteArray} {out com : List Tok} {a c1 c2 : Nat} {A1 A2 : Option Addr} (h : AInv w s out com a A1 A2 c1 c2 wr) (hb : Below wr.heap.size wr w2) : AInv w s out com a A1 A2 c1 c2 w2 := by
  have hg : ∀ row, wr.grownBy w2 row := fun row => ⟨hb.os, hb.tape, hb.output, hb.size, fun k hk _ => hb.block k hk⟩
  exact ⟨h.le, h.l1, h.l2, h.own1.kept (hg none) (by cases hv : (Value.slice A1 out.length c1).ownBlock <;> simp), h.own2.kept (hg none) (by cases hv : (Value.slice A2 com.length c2).ownBlock <;> simp), h.ne, h.below.trans (hb.mono h.below.size), h.eq⟩
theorem AInv.alloc {w wr : World} {s : ByteArray} {out com : List Tok} {a c1 c2 : Nat} {A1 A2 : Option Addr} (h : AInv w s out com a A1 A2 c1 c2 wr) (o : Obj) : AInv w s out com a A1 A2 c1 c2 (wr.alloc o) :=
  h.keep ((Below.refl _ _).alloc (Nat.le_refl _) o)

/-- White space. -/
theorem AInv.skip {w wr : World} {s : ByteArray} {out com : List Tok} {a c1 c2 : Nat} {A1 A2 : Option Addr} (h : AInv w s out com a A1 A2 c1 c2 wr) (ha : a < s.size) (hsep : sep (lastE out) s[a].toNat = true) : AInv w s out com (a + 1) A1 A2 c1 c2 wr := by
  refine ⟨by omega, by have := h.l1; omega, by have := h.l2; omega, h.own1, h.own2, h.ne, h.below, ?_⟩
  have := h.eq
  rw [drop_at s a ha, toks_sep hsep] at this
  exact this

/-- A token goes to out. -/
theorem AInv.push1 {w wr w4 : World} {s : ByteArray} {out com : List Tok} {a n k c1 c2 g cap' H : Nat} {A1 A2 : Option Addr} {t : Bs} {ins' : Bool} (h : AInv w s out com a A1 A2 c1 c2 wr) (st : Step s a (lastE out) k n ins' t) (hi : ins' = endB k t) (hk : k ≠ 5)
    (hown : w4.ownsRow w.heap.size 65 3 (.slice (some ⟨g, 0, none⟩) (out.length + 1) cap') (out.length + 1) (cells out ++ cell1 ⟨k, t, a⟩))
    (hgr : wr.grownBy w4 (Value.slice A1 out.length c1).ownBlock) (hat : (Value.slice A1 out.length c1).ownBlock = some g ∨ g = H) (hH : wr.heap.size = H) :
    AInv w s (out ++ [⟨k, t, a⟩]) com (a + n) (some ⟨g, 0, none⟩) A2 cap' c2 w4 := by
  have hp := st.pos
  have hl : (out ++ [(⟨k, t, a⟩ : Tok)]).length = out.length + 1 := by simp
  have hne2 : (Value.slice A2 com.length c2).ownBlock = none ∨ (Value.slice A2 com.length c2).ownBlock ≠ (Value.slice A1 out.length c1).ownBlock := by
    cases hv : (Value.slice A2 com.length c2).ownBlock with
    | none => exact .inl rfl
    | some q =>
      right
      rcases h.ne with e | e
      · rw [e]; simp
      · rw [hv] at e; exact fun e2 => e e2.symm
  refine ⟨st.le, by rw [hl]; have := h.l1; omega, by have := h.l2; omega, by rw [hl, cells_snoc]; exact hown, h.own2.kept hgr hne2, ?_, h.below.grown hgr h.below.size (fun q hq => (h.own1.lt q hq).1), ?_⟩
  · right
    show some g ≠ _
    rcases hat with e | e
    · rcases h.ne with e2 | e2
      · rw [e] at e2; cases e2
      · rw [← e]; exact e2
    · intro e2
      have := (h.own2.lt g e2.symm).2
      omega
  · have e := h.eq
    rw [st.eq] at e
    rw [← e, lastE_snoc, hi]
    have hk2 : (k == 5) = false := by simpa using hk
    simp [nc, ic, hk2]
/-- A comment. -/
theorem AInv.push2 {w wr w4 : World} {s : ByteArray} {out com : List Tok} {a n k c1 c2 g cap' H : Nat} {A1 A2 : Option Addr} {t : Bs} {ins' : Bool} (h : AInv w s out com a A1 A2 c1 c2 wr) (st : Step s a (lastE out) k n ins' t) (hi : ins' = lastE out) (hk : k = 5)
    (hown : w4.ownsRow w.heap.size 65 3 (.slice (some ⟨g, 0, none⟩) (com.length + 1) cap') (com.length + 1) (cells com ++ cell1 ⟨k, t, a⟩))
    (hgr : wr.grownBy w4 (Value.slice A2 com.length c2).ownBlock) (hat : (Value.slice A2 com.length c2).ownBlock = some g ∨ g = H) (hH : wr.heap.size = H) :
    AInv w s out (com ++ [⟨k, t, a⟩]) (a + n) A1 (some ⟨g, 0, none⟩) c1 cap' w4 := by
  have hp := st.pos
  have hl : (com ++ [(⟨k, t, a⟩ : Tok)]).length = com.length + 1 := by simp
  refine ⟨st.le, by have := h.l1; omega, by rw [hl]; have := h.l2; omega, h.own1.kept hgr h.ne, by rw [hl, cells_snoc]; exact hown, ?_, h.below.grown hgr h.below.size (fun q hq => (h.own2.lt q hq).1), ?_⟩
  · cases hv : (Value.slice A1 out.length c1).ownBlock with
    | none => exact .inl rfl
    | some q =>
      right
      show some q ≠ some g
      rcases hat with e | e
      · rcases h.ne with e2 | e2
        · rw [hv] at e2; cases e2
        · rw [← e, ← hv]; exact e2
      · intro e2
        have := (h.own1.lt q hv).2
        injection e2 with e3
        omega
  · have e := h.eq
    rw [st.eq] at e
    rw [← e, hi]
    subst hk
    simp [nc, ic]
end Go.Proofs.YticbcnhbpbaocaaGreatDoor.V

namespace Go.Proofs.YticbcnhbpbaocaaGreatDoor.V
open Go.RowKit M

theorem results_four {fn : Func} {t u v x : Tmp} (h : fn.results = #[.tmp t, .tmp u, .tmp v, .tmp x]) (tmps : Array Value) (P : Program) (w : World) :
    (results fn tmps).run P w = .ok (.tuple #[tmps.getD t undef, tmps.getD u undef, tmps.getD v undef, tmps.getD x undef]) w := by simp [results, h]

/-- What All leaves. -/
def AllRes (w : World) (lo lc : List Tok) (a err : Nat) (e : Ending) (w' : World) : Prop :=
  ∃ A1 c1 A2 c2, e = .returned (.tuple #[.slice A1 lo.length c1, .slice A2 lc.length c2, .int .i64 (a : Int), .int .i64 (err : Int)]) ∧
    w'.ownsRow w.heap.size 65 3 (.slice A1 lo.length c1) lo.length (cells lo) ∧ w'.ownsRow w.heap.size 65 3 (.slice A2 lc.length c2) lc.length (cells lc) ∧ Below w.heap.size w w'

set_option maxRecDepth 100000 in
theorem all_long (s : ByteArray) (w : World) (hs : 20000 < s.size) (hm : s.size ≤ maxLen) :
    Calls Tryz.prog 39 #[.string s] w (AllRes w [] [] 0 3) := by
  unfold maxLen at hm
  have h1 : (20000 : Int) < (s.size : Int) := by omega
  have h2 : decide ((20000 : Int) < (s.size : Int)) = true := by simp; omega
  go_enter Tryz.func39, Tryz.ntmps39
  go_wp2
  refine bodyPost_ret (results_four rfl _ _ _) rfl ?_
  exact ⟨none, 0, none, 0, rfl, World.ownsRow_nil _ _ _ _, World.ownsRow_nil _ _ _ _, Below.refl _ _⟩

theorem all_end {w wr : World} {s : ByteArray} {out com : List Tok} {a e1 e2 c1 c2 : Nat} {A1 A2 : Option Addr} (h : AInv w s out com a A1 A2 c1 c2 wr) (ht : toks (s.data.toList.drop a) a (lastE out) = ([], e1, e2)) :
    AllRes w ((scanAll s.data.toList).1.filter nc) ((scanAll s.data.toList).1.filter ic) (scanAll s.data.toList).2.1 (scanAll s.data.toList).2.2 (.returned (.tuple #[.slice A1 out.length c1, .slice A2 com.length c2, .int .i64 (e1 : Int), .int .i64 (e2 : Int)])) wr := by
  have e := h.eq
  rw [ht] at e
  simp only [List.filter_nil, List.append_nil, Prod.mk.injEq] at e
  obtain ⟨q1, q2, q3⟩ := e
  rw [← q1, ← q2, ← q3]
  exact ⟨A1, c1, A2, c2, rfl, h.own1, h.own2, h.below⟩

theorem far_own {w : World} {base n : Nat} {v : Value} {xs : List Value} (h : w.ownsRow base 65 3 v n xs) : some w.heap.size ≠ v.ownBlock := by
  intro e
  have := (h.lt _ e.symm).2
  omega
theorem ends_v {k a : Nat} {t : Bs} {v : Bool} (h : endB k t = v) (w : World) : Calls Tryz.prog 56 #[tv k ⟨t.toArray⟩ a] w fun e w' => e = .returned (.bool v) ∧ Below w.heap.size w w' := by
  have := ends_any k ⟨t.toArray⟩ a w
  rw [ByteArray.toList_eq] at this
  rw [← h]
  exact this
theorem after_five (ins : Bool) (t : Bs) : after 5 ins t = ins := rfl
theorem after_other {k : Nat} (h : k ≠ 5) (ins : Bool) (t : Bs) : after k ins t = endB k t := if_neg h

set_option maxRecDepth 100000 in
set_option maxHeartbeats 4000000 in
theorem all_short (s : ByteArray) (w : World) (hs : s.size ≤ 20000) :
    Calls Tryz.prog 39 #[.string s] w (AllRes w ((scanAll s.data.toList).1.filter nc) ((scanAll s.data.toList).1.filter ic) (scanAll s.data.toList).2.1 (scanAll s.data.toList).2.2) := by
  obtain ⟨i0, hi, hz0, hz1, hz2⟩ := info_parts info33
  have h1 : decide ((20000 : Int) < (s.size : Int)) = false := by simp; omega
  have H0 : Hid (AInv w s [] [] 0 none none 0 0 w) := ⟨Nat.zero_le _, Nat.le_refl _, Nat.le_refl _, World.ownsRow_nil _ _ _ _, World.ownsRow_nil _ _ _ _, .inl rfl, Below.refl _ _, rfl⟩
  go_enter Tryz.func39, Tryz.ntmps39
  go_wp2
  go_loopw [6, 7, 8] (fun v1 v2 i wr => ∃ out com a A1 A2 c1 c2, v1 = .slice A1 out.length c1 ∧ v2 = .slice A2 com.length c2 ∧ i = .int .i64 ((a : Nat) : Int) ∧ AInv w s out com a A1 A2 c1 c2 wr) (fun _ _ i _ => s.size - (intOf i).toNat)
  case atStart => exact ⟨[], [], 0, none, none, 0, 0, rfl, rfl, rfl, H0.out⟩
  case round =>
    obtain ⟨out, com, a, A1, A2, c1, c2, rfl, rfl, rfl, hr⟩ := hrel
    have hle := hr.le
    have hl1 := hr.l1
    have hl2 := hr.l2
    have HR := Lib.hid hr
    clear hr H0
    by_cases hin : a < s.size
    · have hb0 : (0 : Int) ≤ (a : Int) := by omega
      have hb1 : (a : Int) < (s.size : Int) := by omega
      obtain ⟨c, hc⟩ : ∃ c, s[a].toNat = c := ⟨_, rfl⟩
      by_cases hw : c = 32 ∨ c = 9 ∨ c = 13
      · have HSK := Lib.hid (HR.out.skip hin (by rw [hc]; unfold sep; rcases hw with rfl | rfl | rfl <;> rfl))
        rcases hw with rfl | rfl | rfl
        all_goals
          go_wp2
          go_roundw
          case rel => exact ⟨out, com, a + 1, A1, A2, c1, c2, rfl, rfl, by go_num, HSK.out⟩
          case measure => simp [intOf]; omega
      · have g1 : ((c : Int) == 32) = false := by simp; omega
        have g2 : ((c : Int) == 9) = false := by simp; omega
        have g3 : ((c : Int) == 13) = false := by simp; omega
        by_cases h10 : c = 10
        · subst h10
          cases hv : lastE out
          · have HSK := Lib.hid (HR.out.skip hin (by rw [hc, hv]; rfl))
            rcases List.eq_nil_or_concat out with ho | ⟨o, tk, ho⟩
            · subst ho
              clear hv hw
              go_wp2
              go_roundw
              case rel => exact ⟨[], com, a + 1, A1, A2, c1, c2, rfl, rfl, by go_num, HSK.out⟩
              case measure => simp [intOf]; omega
            · have hE : endB tk.k tk.t = false := by rw [ho, List.concat_eq_append, lastE_snoc] at hv; exact hv
              have hlen : out.length = o.length + 1 := by rw [ho]; simp
              have hge : out[o.length]'(by omega) = tk := by simp [ho]
              obtain ⟨g, cp, hA, hg0, hg1⟩ := HR.out.own1.form (by omega)
              injection hA with e1 e2 e3
              subst e1 e3
              obtain ⟨d0, d1, d2⟩ := lies_of HR.out.own1 o.length (by omega)
              rw [hge] at d0 d1 d2
              have HE := Lib.hid hE
              have hp0 : (0 : Int) < (out.length : Int) := by omega
              have hp1 : (0 : Int) ≤ (out.length : Int) - 1 := by omega
              have hp2 : (1 : Int) ≤ (out.length : Int) := by omega
              have hp3 : (out.length : Int) - 1 < (out.length : Int) := by omega
              have ht1 : ((out.length : Int) - 1).toNat = o.length := by omega
              clear ho hE hlen hge hv hw
              go_wp2_with (go_at_call 56; refine (ends_v HE.out _).mono ?_; rintro e w2 ⟨rfl, hb2⟩)
              go_roundw
              case rel => exact ⟨out, com, a + 1, some ⟨g, 0, none⟩, A2, c1, c2, rfl, rfl, by go_num, HSK.out.keep hb2⟩
              case measure => simp [intOf]; omega
          · rcases List.eq_nil_or_concat out with ho | ⟨o, tk, ho⟩
            · subst ho; cases hv
            · have hE : endB tk.k tk.t = true := by rw [ho, List.concat_eq_append, lastE_snoc] at hv; exact hv
              have hlen : out.length = o.length + 1 := by rw [ho]; simp
              have hge : out[o.length]'(by omega) = tk := by simp [ho]
              have hst : Hid (Step s a (lastE out) 4 1 false [59]) := by
                refine ⟨Nat.le_refl _, by omega, ?_⟩
                rw [drop_at s a hin, toks_feed (by rw [hc, hv]; rfl) hc]
              obtain ⟨g, cp, hA, hg0, hg1⟩ := HR.out.own1.form (by omega)
              injection hA with e1 e2 e3
              subst e1 e3
              obtain ⟨d0, d1, d2⟩ := lies_of HR.out.own1 o.length (by omega)
              rw [hge] at d0 d1 d2
              have HE := Lib.hid hE
              have hp0 : (0 : Int) < (out.length : Int) := by omega
              have hp1 : (0 : Int) ≤ (out.length : Int) - 1 := by omega
              have hp2 : (1 : Int) ≤ (out.length : Int) := by omega
              have hp3 : (out.length : Int) - 1 < (out.length : Int) := by omega
              have ht1 : ((out.length : Int) - 1).toNat = o.length := by omega
              clear ho hE hlen hge hv hw
              go_wp2_with fail
              refine (ends_v HE.out _).mono ?_
              rintro e w2 ⟨rfl, hb2⟩
              have HR2 := Lib.hid (HR.out.keep hb2)
              clear hb2 d0 d1 d2 ht1
              go_wp2_with (at_builtin; refine wpList_append_lies _ rfl _ _ _ rfl w.heap.size 65 i0 _ 3 32 Tryz.underlying35 hi hz0 hz1 hz2 rfl (by omega) (.slice (some ⟨g, 0, none⟩) out.length c1) out.length (cells out) rfl (HR2.out.own1.alloc _) ⟨w2.heap.size, 0, none⟩ 1 1 (cell1 ⟨4, [59], a⟩) rfl rfl (World.news_of_block (cs := #[.int .i64 4, .string ⟨#[59]⟩, .int .i64 (a : Int)]) (t := 65) (fr := (0, 0)) (heap_alloc_new w2 _)) (by simp [Value.oneCell', cell1]) (by omega) (by unfold maxLen; omega) (by omega) (by simp; have := HR2.out.below.size; omega) (w2.heap.size + 1) (by simp) ?_; intro g1 cap1 w4 hown1 hgrow1 hat1 hlt1)
              have R := Lib.hid (AInv.push1 (HR2.out.alloc _) hst.out rfl (by decide) hown1 hgrow1 hat1 (by simp))
              clear hown1 hgrow1 hat1
              go_roundw
              case rel => exact ⟨out ++ [⟨4, [59], a⟩], com, a + 1, some ⟨g1, 0, none⟩, A2, cap1, c2, by rw [List.length_append]; rfl, rfl, by go_num, R.out⟩
              case measure => simp [intOf]; omega
        · have g4 : ((c : Int) == 10) = false := by simp; omega
          have hsep : sep (lastE out) s[a].toNat = false := by rw [hc]; unfold sep; simp; omega
          rcases rnext_case (lastE out) wr hs hin (by rw [hc]; exact h10) hsep with ⟨k, n, t, st, ht, hcall⟩ | ⟨err, herr, htk, hcall⟩
          · have HC := Lib.hid hcall
            have ST := Lib.hid st
            have HT : Hid ((⟨t.toArray⟩ : ByteArray).size = n) := by rw [← ht]; rfl
            have hT2 := Lib.hid ht
            clear hcall st ht hw h10 hsep
            go_wp2_with fail
            refine HC.out.mono ?_
            rintro e w2 ⟨rfl, hb2⟩
            have HR2 := Lib.hid (HR.out.keep hb2)
            clear hb2
            have hpos := ST.out.pos
            have hlen := ST.out.le
            by_cases hk : k = 5
            · subst hk
              have hT := HT.out
              have hT3 := hT2.out
              go_wp2_with (at_builtin; refine wpList_append_lies _ rfl _ _ _ rfl w.heap.size 65 i0 _ 3 32 Tryz.underlying35 hi hz0 hz1 hz2 rfl (by omega) (.slice A2 com.length c2) com.length (cells com) rfl ((HR2.out.own2.alloc _).alloc _) ⟨w2.heap.size + 1, 0, none⟩ 1 1 (cell1 ⟨5, t, a⟩) rfl rfl (World.news_of_block (cs := #[.int .i64 5, .string ⟨t.toArray⟩, .int .i64 (a : Int)]) (t := 65) (fr := (0, 0)) (heap_alloc2_new w2 _ _)) (by simp [Value.oneCell', cell1]) (by omega) (by unfold maxLen; omega) (by omega) (by simp; have := HR2.out.below.size; omega) (w2.heap.size + 2) (by simp) ?_; intro g1 cap1 w4 hown1 hgrow1 hat1 hlt1; have r1 : w4.cell? ⟨w2.heap.size, 1, none⟩ = some (.string ⟨t.toArray⟩) := (hgrow1.cell_far ⟨w2.heap.size, 1, none⟩ (by show w2.heap.size < _; simp; omega) (far_own HR2.out.own2)).trans (by simp))
              have R := Lib.hid (AInv.push2 ((HR2.out.alloc _).alloc _) ST.out (after_five _ _) rfl hown1 hgrow1 hat1 (by simp))
              clear hown1 hgrow1 hat1 hT hT3
              go_roundw
              case rel => exact ⟨out, com ++ [⟨5, t, a⟩], a + n, A1, some ⟨g1, 0, none⟩, c1, cap1, rfl, by rw [List.length_append]; rfl, by go_num, R.out⟩
              case measure => simp [intOf]; omega
            · have hkq : ((k : Int) == 5) = false := by simp; omega
              have hT := HT.out
              have hT3 := hT2.out
              have HK5 := Lib.hid hk
              clear hk
              go_wp2_with (at_builtin; refine wpList_append_lies _ rfl _ _ _ rfl w.heap.size 65 i0 _ 3 32 Tryz.underlying35 hi hz0 hz1 hz2 rfl (by omega) (.slice A1 out.length c1) out.length (cells out) rfl ((HR2.out.own1.alloc _).alloc _) ⟨w2.heap.size + 1, 0, none⟩ 1 1 (cell1 ⟨k, t, a⟩) rfl rfl (World.news_of_block (cs := #[.int .i64 (k : Int), .string ⟨t.toArray⟩, .int .i64 (a : Int)]) (t := 65) (fr := (0, 0)) (heap_alloc2_new w2 _ _)) (by simp [Value.oneCell', cell1]) (by omega) (by unfold maxLen; omega) (by omega) (by simp; have := HR2.out.below.size; omega) (w2.heap.size + 2) (by simp) ?_; intro g1 cap1 w4 hown1 hgrow1 hat1 hlt1; have r1 : w4.cell? ⟨w2.heap.size, 1, none⟩ = some (.string ⟨t.toArray⟩) := (hgrow1.cell_far ⟨w2.heap.size, 1, none⟩ (by show w2.heap.size < _; simp; omega) (far_own HR2.out.own1)).trans (by simp))
              have R := Lib.hid (AInv.push1 ((HR2.out.alloc _).alloc _) ST.out (after_other HK5.out _ _) HK5.out hown1 hgrow1 hat1 (by simp))
              clear hown1 hgrow1 hat1 hT hT3
              go_roundw
              case rel => exact ⟨out ++ [⟨k, t, a⟩], com, a + n, some ⟨g1, 0, none⟩, A2, cap1, c2, by rw [List.length_append]; rfl, rfl, by go_num, R.out⟩
              case measure => simp [intOf]; omega
          · have HE : ((err : Int) != 0) = true := by simp; omega
            have HC := Lib.hid hcall
            have HK := Lib.hid htk
            clear hcall htk herr hw h10 hsep
            go_wp2_with fail
            refine HC.out.mono ?_
            rintro e w2 ⟨k, t, ao, rfl, hb2⟩
            have HR2 := Lib.hid (HR.out.keep hb2)
            clear hb2
            go_wp2
            refine bodyPost_ret (results_four rfl _ _ _) rfl ?_
            exact all_end (HR2.out.alloc _) HK.out
    · obtain rfl : a = s.size := by omega
      have hd : decide ((s.size : Int) < (s.size : Int)) = false := by simp
      go_wp2
      refine bodyPost_ret (results_four rfl _ _ _) rfl ?_
      exact all_end HR.out (by rw [List.drop_of_length_le (by simp)]; rfl)
end Go.Proofs.YticbcnhbpbaocaaGreatDoor.V

namespace Go.Proofs.YticbcnhbpbaocaaGreatDoor.V
open Go.RowKit M

theorem all_any (s : ByteArray) (w : World) (hm : s.size ≤ maxLen) :
    Calls Tryz.prog 39 #[.string s] w (AllRes w ((scanR s.data.toList).1.filter nc) ((scanR s.data.toList).1.filter ic) (scanR s.data.toList).2.1 (scanR s.data.toList).2.2) := by
  unfold scanR
  by_cases h : 20000 < s.size
  · rw [if_pos (by rw [← size_list]; exact h)]
    exact all_long s w h hm
  · rw [if_neg (by rw [← size_list]; exact h)]
    exact all_short s w (by omega)

set_option maxRecDepth 100000 in
theorem rscan_any (s : ByteArray) (w : World) (hm : s.size ≤ maxLen) :
    Calls Tryz.prog 25 #[.string s] w (Reads w (scanL s.data.toList) (scanA s.data.toList) (scanE s.data.toList)) := by
  have H := Lib.hid (all_any s w hm)
  by_cases he : scanE s.data.toList = 0
  · have HE : (((scanR s.data.toList).2.2 : Int) != 0) = false := by unfold scanE at he; simp; omega
    have HL : Hid (scanL s.data.toList = (scanR s.data.toList).1.filter nc) := by unfold scanL scanE at *; exact if_pos he
    have HA := Lib.hid (scanA_zero _ he)
    have HZ := Lib.hid he
    clear he
    go_enter Tryz.func25, Tryz.ntmps25
    go_wp2_with fail
    refine H.out.mono ?_
    rintro e w2 ⟨A1, c1, A2, c2, rfl, ho, _, hb⟩
    have HO := Lib.hid ho
    have HB := Lib.hid hb
    clear ho hb
    go_wp2
    go_ret3
    refine ⟨A1, c1, ?_, ?_, HB.out⟩
    · rw [HL.out, HA.out, HZ.out]; rfl
    · rw [HL.out]; exact HO.out
  · have HE : (((scanR s.data.toList).2.2 : Int) != 0) = true := by unfold scanE at he; simp; omega
    have HL : Hid (scanL s.data.toList = []) := by unfold scanL scanE at *; exact if_neg he
    clear he
    go_enter Tryz.func25, Tryz.ntmps25
    go_wp2_with fail
    refine H.out.mono ?_
    rintro e w2 ⟨A1, c1, A2, c2, rfl, ho, _, hb⟩
    have HB := Lib.hid hb
    clear ho hb
    go_wp2
    go_ret3
    refine ⟨none, 0, ?_, ?_, HB.out⟩
    · rw [HL.out]; rfl
    · rw [HL.out]; exact World.ownsRow_nil _ _ _ _

end Go.Proofs.YticbcnhbpbaocaaGreatDoor.V
