/-
  The walks of the specification's Scan, Comments and Same.
-/
import Derived.Test.YtaalgkcbknlccaaDoorR6
namespace Go.Proofs.YtaalgkcbknlccaaDoor
open Go.RowKit M

theorem all_any (s : ByteArray) (w : World) (hm : s.size ≤ maxLen) :
    Calls Tryd.prog 25 #[.string s] w (AllRes w ((scanR s.data.toList).1.filter nc) ((scanR s.data.toList).1.filter ic) (scanR s.data.toList).2.1 (scanR s.data.toList).2.2) := by
  unfold scanR
  by_cases h : 20000 < s.size
  · rw [if_pos (by rw [← size_list]; exact h)]
    exact all_long s w h hm
  · rw [if_neg (by rw [← size_list]; exact h)]
    exact all_short s w (by omega)

set_option maxRecDepth 100000 in
theorem rscan_any (s : ByteArray) (w : World) (hm : s.size ≤ maxLen) :
    Calls Tryd.prog 13 #[.string s] w (Reads w (scanL s.data.toList) (scanA s.data.toList) (scanE s.data.toList)) := by
  have H := Lib.hid (all_any s w hm)
  by_cases he : scanE s.data.toList = 0
  · have HE : (((scanR s.data.toList).2.2 : Int) != 0) = false := by unfold scanE at he; simp; omega
    have HL : Hid (scanL s.data.toList = (scanR s.data.toList).1.filter nc) := by unfold scanL scanE at *; exact if_pos he
    have HA := Lib.hid (scanA_zero _ he)
    have HZ := Lib.hid he
    clear he
    go_enter Tryd.func13, Tryd.ntmps13
    go_wp2_with fail
    refine H.out.mono ?_
    rintro e w2 ⟨A1, c1, A2, c2, rfl, ho, _, hb⟩
    have HO := Lib.hid ho
    have HB := Lib.hid hb
    clear ho hb
    go_wp2
    go_ret3
    refine ⟨A1, c1, ?_, ?_, HB.out⟩
    · rw [HL.out, HA.out, HZ.out]; rfl
    · rw [HL.out]; exact HO.out
  · have HE : (((scanR s.data.toList).2.2 : Int) != 0) = true := by unfold scanE at he; simp; omega
    have HL : Hid (scanL s.data.toList = []) := by unfold scanL scanE at *; exact if_neg he
    clear he
    go_enter Tryd.func13, Tryd.ntmps13
    go_wp2_with fail
    refine H.out.mono ?_
    rintro e w2 ⟨A1, c1, A2, c2, rfl, ho, _, hb⟩
    have HB := Lib.hid hb
    clear ho hb
    go_wp2
    go_ret3
    refine ⟨none, 0, ?_, ?_, HB.out⟩
    · rw [HL.out]; rfl
    · rw [HL.out]; exact World.ownsRow_nil _ _ _ _

set_option maxRecDepth 100000 in
theorem rcomments_any (s : ByteArray) (w : World) (hm : s.size ≤ maxLen) :
    Calls Tryd.prog 16 #[.string s] w (Kept w w.heap.size (comL s.data.toList)) := by
  have H := Lib.hid (all_any s w hm)
  go_enter Tryd.func16, Tryd.ntmps16
  go_wp2_with fail
  refine H.out.mono ?_
  rintro e w2 ⟨A1, c1, A2, c2, rfl, _, ho, hb⟩
  have HO := Lib.hid ho
  have HB := Lib.hid hb
  clear ho hb
  go_wp2
  go_ret
  exact ⟨A2, c2, rfl, HO.out, HB.out⟩

/-- A slice that reads as tokens. -/
def Rd (w : World) (A : Option Addr) (l : List Tok) : Prop := l = [] ∨ ∃ g, A = some ⟨g, 0, none⟩ ∧ Lies w g l ∧ g < w.heap.size
theorem rd_of {w : World} {base cap : Nat} {A : Option Addr} {l : List Tok} (h : w.ownsRow base 33 3 (.slice A l.length cap) l.length (cells l)) : Rd w A l := by
  by_cases h0 : l = []
  · exact .inl h0
  · have : 0 < l.length := List.length_pos_iff.2 h0
    obtain ⟨g, c, hv, _, hlt⟩ := h.form this
    injection hv with e1 e2 e3
    subst e1 e3
    exact .inr ⟨g, rfl, lies_of h, hlt⟩
theorem Rd.below {w w' : World} {A : Option Addr} {l : List Tok} (h : Rd w A l) (hb : Below w.heap.size w w') : Rd w' A l := by
  rcases h with h | ⟨g, e, h, hlt⟩
  · exact .inl h
  · exact .inr ⟨g, e, h.below hb hlt, by have := hb.size; omega⟩

set_option maxRecDepth 100000 in
set_option maxHeartbeats 1000000 in
theorem same_some (g1 g2 c1 c2 : Nat) (l : List Tok) (w : World) (hl : l.length ≤ 1000000) (h1 : Lies w g1 l) (h2 : Lies w g2 l) :
    Calls Tryd.prog 14 #[.slice (some ⟨g1, 0, none⟩) l.length c1, .slice (some ⟨g2, 0, none⟩) l.length c2] w fun e w' => e = .returned (.bool true) ∧ Drawn w w' := by
  have H1 := Lib.hid h1
  have H2 := Lib.hid h2
  clear h1 h2
  have hne : ((l.length : Int) != (l.length : Int)) = false := by simp
  go_enter Tryd.func14, Tryd.ntmps14
  go_wp2
  go_loopw [5] (fun i wr => ∃ k : Nat, k ≤ l.length ∧ i = .int .i64 k ∧ Drawn w wr) (fun i _ => l.length - (intOf i).toNat)
  case atStart => exact ⟨0, Nat.zero_le _, rfl, Drawn.refl _⟩
  case round =>
    obtain ⟨k, hk, rfl, hd⟩ := hrel
    by_cases hkl : k < l.length
    · obtain ⟨n, rfl⟩ := hd
      obtain ⟨a0, a1, a2⟩ := H1.out k hkl
      obtain ⟨d0, d1, d2⟩ := H2.out k hkl
      generalize l[k] = t at *
      have hk0 : (0 : Int) ≤ (k : Int) := by omega
      have hk1 : (k : Int) < (l.length : Int) := by omega
      go_wp2_with fail
      go_quiet (fail)
      go_wp2
      go_roundw
      case rel => exact ⟨k + 1, by omega, by go_num, ⟨_, rfl⟩⟩
      case measure => simp [intOf]; omega
    · obtain rfl : k = l.length := by omega
      have hd2 : decide ((l.length : Int) < (l.length : Int)) = false := by simp
      go_wp2
      go_ret
      exact ⟨rfl, hd⟩
set_option maxRecDepth 100000 in
theorem same_none (A1 A2 : Option Addr) (c1 c2 : Nat) (w : World) :
    Calls Tryd.prog 14 #[.slice A1 0 c1, .slice A2 0 c2] w fun e w' => e = .returned (.bool true) ∧ Drawn w w' := by
  go_enter Tryd.func14, Tryd.ntmps14
  go_wp2
  go_loop [5] (fun i => i = .int .i64 0) (fun _ => 0)
  case atStart => rfl
  case round =>
    obtain rfl := hrel
    go_wp2
    go_ret
    exact ⟨rfl, Drawn.refl _⟩
/-- Same, at two slices that read as the same tokens. -/
theorem same_any (A1 A2 : Option Addr) (c1 c2 : Nat) (l : List Tok) (w : World) (hl : l.length ≤ 1000000) (h1 : Rd w A1 l) (h2 : Rd w A2 l) :
    Calls Tryd.prog 14 #[.slice A1 l.length c1, .slice A2 l.length c2] w fun e w' => e = .returned (.bool true) ∧ Drawn w w' := by
  by_cases h0 : l = []
  · subst h0; exact same_none A1 A2 c1 c2 w
  · rcases h1 with h1 | ⟨g1, rfl, h1, _⟩
    · exact absurd h1 h0
    · rcases h2 with h2 | ⟨g2, rfl, h2, _⟩
      · exact absurd h2 h0
      · exact same_some g1 g2 c1 c2 l w hl h1 h2
end Go.Proofs.YtaalgkcbknlccaaDoor
