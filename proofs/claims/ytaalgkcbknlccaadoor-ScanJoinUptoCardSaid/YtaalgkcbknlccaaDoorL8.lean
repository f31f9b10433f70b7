/-
  The walks of the specification's Join and Alike.
-/
import Derived.Test.YtaalgkcbknlccaaDoorL5
import Derived.Test.YtaalgkcbknlccaaDoorMath7
namespace Go.Proofs.YtaalgkcbknlccaaDoor
open Go.RowKit M

theorem of_list {b : ByteArray} {l : Bs} (h : b.data.toList = l) : b = ⟨l.toArray⟩ := by subst h; rfl
theorem joinK_eq (ts : List ByteArray) (k : Nat) (hk : k ≤ ts.length) : joinK ts k = joinL ((ts.take k).map (·.data.toList)) := by
  induction k with
  | zero => rfl
  | succ k ih =>
    have hkl : k < ts.length := by omega
    have e : (ts.getD k ⟨#[]⟩) = ts[k] := by simp [List.getD, List.getElem?_eq_getElem hkl]
    rw [joinK, ih (by omega), e, List.take_succ_eq_append_getElem hkl, List.map_append, List.map_cons, List.map_nil, joinL_snoc]
    congr 2
    by_cases h0 : k = 0
    · subst h0; simp
    · rw [if_neg h0, if_neg (by
        intro h
        have := congrArg List.length h
        rw [List.length_map, List.length_take] at this
        simp at this
        rcases this with h | h
        · exact h0 h
        · subst h; simp at hkl)]
theorem joined_eq (ts : List ByteArray) : joined ts = joinL (ts.map (·.data.toList)) := by
  unfold joined
  rw [joinK_eq ts ts.length (Nat.le_refl _), List.take_length]

set_option maxRecDepth 100000 in
theorem rjoin_none (A : Option Addr) (cap : Nat) (w : World) :
    Calls Tryd.prog 20 #[.slice A 0 cap] w fun e w' => e = .returned (.string ⟨#[]⟩) ∧ w = w' := by
  go_enter Tryd.func20, Tryd.ntmps20
  go_wp2
  go_loop [3, 4] (fun s i => s = .string ⟨#[]⟩ ∧ i = .int .i64 0) (fun _ _ => 0)
  case atStart => exact ⟨rfl, rfl⟩
  case round =>
    obtain ⟨rfl, rfl⟩ := hrel
    go_wp2
    go_ret
    exact ⟨rfl, rfl⟩

/-- What the loop holds behind k rounds. -/
def JoinAt (ts : List ByteArray) (k : Nat) (b : ByteArray) : Prop := b.data.toList = joinK ts k
set_option maxRecDepth 100000 in
set_option maxHeartbeats 1000000 in
theorem rjoin_some (g off cap : Nat) (ts : List ByteArray) (w : World) (h : Texts w g off ts) (hl : ts.length ≤ 1000000) (htot : total ts ≤ 140737487355328) :
    Calls Tryd.prog 20 #[.slice (some ⟨g, off, none⟩) ts.length cap] w fun e w' => e = .returned (.string ⟨(joined ts).toArray⟩) ∧ w = w' := by
  have HT := Lib.hid h
  clear h
  go_enter Tryd.func20, Tryd.ntmps20
  go_wp2
  go_loop [3, 4] (fun s i => ∃ (k : Nat) (b : ByteArray), k ≤ ts.length ∧ s = .string b ∧ i = .int .i64 k ∧ JoinAt ts k b) (fun _ i => ts.length - (intOf i).toNat)
  case atStart => exact ⟨0, ⟨#[]⟩, Nat.zero_le _, rfl, rfl, rfl⟩
  case round =>
    obtain ⟨k, b, hk, rfl, rfl, hb⟩ := hrel
    have HB := Lib.hid hb
    have hkb := joinK_len ts k hk
    have hkt := total_take ts k
    have hbs : b.size ≤ 140737488355328 := by rw [size_list, HB.out]; omega
    clear hb
    by_cases hkl : k < ts.length
    · obtain ⟨x, y, d0, d1, d2⟩ := HT.out k hkl
      have hge : ts.getD k ⟨#[]⟩ = ts[k] := by simp [List.getD, List.getElem?_eq_getElem hkl]
      have hsum : total (ts.take (k + 1)) = total (ts.take k) + ts[k].size := by rw [List.take_succ_eq_append_getElem hkl, total_app, total_one]
      have hkt2 := total_take ts (k + 1)
      have HG := Lib.hid hge
      have hts : ts[k].size ≤ 140737488355328 := by omega
      clear hge hsum hkt2 hkt hkb
      generalize ts[k] = t at *
      have hk1 : (k : Int) < (ts.length : Int) := by omega
      by_cases h0 : k = 0
      · subst h0
        simp only [Nat.zero_mul, Nat.add_zero] at d0 d1 d2
        have R : Hid (JoinAt ts (0 + 1) (b ++ t)) := Lib.hid (by unfold JoinAt; rw [joinK, ByteArray.data_append, Array.toList_append, HB.out, HG.out]; rfl)
        go_wp2
        go_round
        case rel => exact ⟨1, _, by omega, rfl, by go_num, R.out⟩
        case measure => simp [intOf]; omega
      · have hk0 : (0 : Int) < (k : Int) := by omega
        have R : Hid (JoinAt ts (k + 1) (b ++ ⟨#[32]⟩ ++ t)) := Lib.hid (by unfold JoinAt; rw [joinK, ByteArray.data_append, ByteArray.data_append, Array.toList_append, Array.toList_append, HB.out, HG.out, if_neg h0])
        have hb1 : (b ++ ⟨#[32]⟩ : ByteArray).size ≤ 140737488355329 := by rw [ByteArray.size_append]; show b.size + 1 ≤ _; omega
        have HK0 := Lib.hid h0
        clear h0
        go_wp2
        go_round
        case rel => exact ⟨k + 1, _, by omega, rfl, by go_num, R.out⟩
        case measure => simp [intOf]; omega
    · obtain rfl : k = ts.length := by omega
      have hd : decide ((ts.length : Int) < (ts.length : Int)) = false := by simp
      have e := of_list HB.out
      have HE := Lib.hid e
      clear e
      go_wp2
      go_ret
      exact ⟨by rw [HE.out]; rfl, rfl⟩

set_option maxRecDepth 100000 in
set_option maxHeartbeats 1000000 in
theorem alike_some (g1 g2 c1 c2 : Nat) (l m : List Tok) (w : World) (hl : l.length ≤ 1000000) (h1 : Lies w g1 l) (h2 : Lies w g2 m) (hm : l.map kt = m.map kt) :
    Calls Tryd.prog 21 #[.slice (some ⟨g1, 0, none⟩) l.length c1, .slice (some ⟨g2, 0, none⟩) l.length c2] w fun e w' => e = .returned (.bool true) ∧ Drawn w w' := by
  have H1 := Lib.hid h1
  have H2 := Lib.hid h2
  have HM := Lib.hid hm
  clear h1 h2 hm
  have hne : ((l.length : Int) != (l.length : Int)) = false := by simp
  go_enter Tryd.func21, Tryd.ntmps21
  go_wp2
  go_loopw [5] (fun i wr => ∃ k : Nat, k ≤ l.length ∧ i = .int .i64 k ∧ Drawn w wr) (fun i _ => l.length - (intOf i).toNat)
  case atStart => exact ⟨0, Nat.zero_le _, rfl, Drawn.refl _⟩
  case round =>
    obtain ⟨k, hk, rfl, hd⟩ := hrel
    by_cases hkl : k < l.length
    · obtain ⟨n, rfl⟩ := hd
      have hlm : l.length = m.length := by have := congrArg List.length HM.out; simpa using this
      have hkm : k < m.length := by omega
      have hkt : kt l[k] = kt m[k] := by
        have e : (l.map kt)[k]? = (m.map kt)[k]? := by rw [HM.out]
        rw [List.getElem?_map, List.getElem?_map, List.getElem?_eq_getElem hkl, List.getElem?_eq_getElem hkm] at e
        simpa using e
      obtain ⟨a0, a1, _⟩ := H1.out k hkl
      obtain ⟨d0, d1, _⟩ := H2.out k hkm
      have e0 : m[k].k = l[k].k := (congrArg Prod.fst hkt).symm
      have e1 : m[k].t = l[k].t := (congrArg Prod.snd hkt).symm
      rw [e0] at d0
      rw [e1] at d1
      clear e0 e1 hkt
      generalize l[k] = t at *
      have HLM := Lib.hid hlm
      clear hlm
      have hk0 : (0 : Int) ≤ (k : Int) := by omega
      have hk1 : (k : Int) < (l.length : Int) := by omega
      go_wp2_with fail
      go_quiet (fail)
      go_wp2
      go_roundw
      case rel => exact ⟨k + 1, by omega, by go_num, ⟨_, rfl⟩⟩
      case measure => simp [intOf]; omega
    · obtain rfl : k = l.length := by omega
      have hd2 : decide ((l.length : Int) < (l.length : Int)) = false := by simp
      go_wp2
      go_ret
      exact ⟨rfl, hd⟩
set_option maxRecDepth 100000 in
theorem alike_none (A1 A2 : Option Addr) (c1 c2 : Nat) (w : World) :
    Calls Tryd.prog 21 #[.slice A1 0 c1, .slice A2 0 c2] w fun e w' => e = .returned (.bool true) ∧ Drawn w w' := by
  go_enter Tryd.func21, Tryd.ntmps21
  go_wp2
  go_loop [5] (fun i => i = .int .i64 0) (fun _ => 0)
  case atStart => rfl
  case round =>
    obtain rfl := hrel
    go_wp2
    go_ret
    exact ⟨rfl, Drawn.refl _⟩
/-- Alike, at two slices of tokens of the same kinds and texts. -/
theorem alike_any (A1 A2 : Option Addr) (c1 c2 : Nat) (l m : List Tok) (w : World) (hl : l.length ≤ 1000000) (h1 : Rd w A1 l) (h2 : Rd w A2 m) (hm : l.map kt = m.map kt) :
    Calls Tryd.prog 21 #[.slice A1 l.length c1, .slice A2 m.length c2] w fun e w' => e = .returned (.bool true) ∧ Drawn w w' := by
  have hlm : m.length = l.length := by have := congrArg List.length hm; simpa using this.symm
  rw [hlm]
  by_cases h0 : l = []
  · subst h0; exact alike_none A1 A2 c1 c2 w
  · rcases h1 with h1 | ⟨g1, rfl, h1, _⟩
    · exact absurd h1 h0
    · rcases h2 with h2 | ⟨g2, rfl, h2, _⟩
      · subst h2
        exact absurd (List.eq_nil_of_length_eq_zero hlm.symm) h0
      · exact alike_some g1 g2 c1 c2 l m w hl h1 h2 hm
end Go.Proofs.YtaalgkcbknlccaaDoor
