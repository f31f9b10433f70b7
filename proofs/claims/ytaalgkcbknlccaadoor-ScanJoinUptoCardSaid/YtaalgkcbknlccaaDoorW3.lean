/-
  The walk of span.
-/
import Derived.Test.YtaalgkcbknlccaaDoorW2
import Derived.Laws.OwnMore
namespace Go.Proofs.YtaalgkcbknlccaaDoor
open Go.RowKit M

/-- The scanner's block: text, offset, whether a line feed inserts. -/
def Sc (w : World) (C : Nat) (s : ByteArray) (a : Nat) (ins : Bool) : Prop :=
  w.heap[C]? = some (.cells #[.string s, .int .i64 (a : Int), .bool ins] 52 (0, 0))
theorem Sc.cells {w : World} {C : Nat} {s : ByteArray} {a : Nat} {ins : Bool} (h : Sc w C s a ins) :
    w.cell? ⟨C, 0, none⟩ = some (.string s) ∧ w.cell? ⟨C, 1, none⟩ = some (.int .i64 (a : Int)) ∧ w.cell? ⟨C, 2, none⟩ = some (.bool ins) ∧
    w.frozen? ⟨C, 0, none⟩ = false ∧ w.frozen? ⟨C, 1, none⟩ = false ∧ w.frozen? ⟨C, 2, none⟩ = false ∧ C < w.heap.size := by
  unfold Sc at h
  refine ⟨by simp [World.cell?, h], by simp [World.cell?, h], by simp [World.cell?, h], by simp [World.frozen?, h], by simp [World.frozen?, h], by simp [World.frozen?, h], (Array.getElem?_eq_some_iff.1 h).1⟩

theorem quiet_left {P : Program} {f : FuncId} {args : Array Value} {w : World} {n : Nat} {v : Value}
    (h : Calls P f args (w.drewN n) fun e w' => e = .returned v ∧ w.drewN n = w') : Calls P f args (w.drewN n) fun e w'' => e = .returned v ∧ ∃ m, w'' = w.drewN m :=
  h.mono fun _ _ ⟨he, hm⟩ => ⟨he, n, hm.symm⟩
/-- w' is w, but for draws. -/
def Drawn (w w' : World) : Prop := ∃ n, w' = w.drewN n
theorem Drawn.refl (w : World) : Drawn w w := ⟨0, rfl⟩
theorem Drawn.more {w w' : World} (h : Drawn w w') (n : Nat) : Drawn w (w'.drewN n) := by
  obtain ⟨m, rfl⟩ := h
  exact ⟨m + n, World.drewN_drewN _ _ _⟩
theorem Sc.drawn {w w' : World} {C : Nat} {s : ByteArray} {a : Nat} {ins : Bool} (h : Sc w C s a ins) (d : Drawn w w') : Sc w' C s a ins := by
  obtain ⟨m, rfl⟩ := d
  exact h

theorem byte_drop (s : ByteArray) (a k : Nat) (h : a + k < s.size) : ((s.data.toList.drop a).getD k 0).toNat = s[a + k].toNat := by
  have e : (s.data.toList.drop a).getD k 0 = s[a + k] := by
    rw [List.getD_eq_getElem?_getD, List.getElem?_drop, Array.getElem?_toList, Array.getElem?_eq_getElem (by exact h)]
    rfl
  rw [e]

set_option maxRecDepth 100000 in
set_option maxHeartbeats 1000000 in
theorem span_digits (C a : Nat) (s : ByteArray) (ins : Bool) (w : World) (h : Sc w C s a ins) (hs : s.size ≤ 20000) (ha : a ≤ s.size) :
    Calls Tryd.prog 51 #[.pointer (some ⟨C, 0, none⟩), .func (.func 40) #[] #[]] w fun e w' => e = .returned (.int .i64 (spn isD (s.data.toList.drop a) : Int)) ∧ Drawn w w' := by
  have HS := Lib.hid h
  clear h
  go_enter Tryd.func51, Tryd.ntmps51
  go_wp2
  go_loopw [5] (fun i wr => ∃ k : Nat, k ≤ spn isD (s.data.toList.drop a) ∧ i = .int .i64 k ∧ Drawn w wr) (fun i _ => s.size - (intOf i).toNat)
  case atStart => exact ⟨0, Nat.zero_le _, rfl, Drawn.refl _⟩
  case round =>
    obtain ⟨k, hk, rfl, hd⟩ := hrel
    obtain ⟨c0, c1, c2, f0, f1, f2, hlt⟩ := (HS.out.drawn hd).cells
    have HD := Lib.hid hd
    have HK := Lib.hid hk
    clear hd
    have hl : k ≤ s.size - a := by have := spn_le isD (s.data.toList.drop a); simp at this; omega
    clear hk
    by_cases hlt2 : a + k < s.size
    · have hb1 : (0 : Int) ≤ (a : Int) + k := by omega
      have hb2 : (a : Int) + k < (s.size : Int) := by omega
      have HB := Lib.hid (byte_drop s a k hlt2)
      go_wp2_with fail
      have hw1 : IntKind.i64.wrap ((a : Int) + k) = (a : Int) + k := IntWalk.i64_in _ (by omega)
      have ht1 : ((a : Int) + k).toNat = a + k := by omega
      have hg : decide ((a : Int) + k < (s.size : Int)) = true := by simp; omega
      go_quiet ((go_at_call 40; exact quiet_left (digit_any _ _)))
      clear hw1
      go_wp2
      · have hp : isD s[a + k].toNat = true := by assumption
        go_roundw
        case rel => exact ⟨k + 1, spn_more _ _ _ HK.out (by simp; omega) (by rw [HB.out]; exact hp), by go_num, HD.out.more _⟩
        case measure => simp [intOf]; omega
      · have hp : isD s[a + k].toNat = false := by assumption
        go_ret
        exact ⟨ret_int (by rw [← spn_stop _ _ _ HK.out (fun _ => by rw [HB.out]; exact hp)]), HD.out.more _⟩
    · have hb1 : (0 : Int) ≤ (a : Int) + k := by omega
      go_wp2_with fail
      have hw1 : IntKind.i64.wrap ((a : Int) + k) = (a : Int) + k := IntWalk.i64_in _ (by omega)
      have hg : decide ((a : Int) + k < (s.size : Int)) = false := by simp; omega
      go_quiet (fail)
      clear hw1
      go_wp2
      go_ret
      exact ⟨ret_int (by rw [← spn_stop _ _ _ HK.out (fun g => by simp at g; omega)]), HD.out.more _⟩

set_option maxRecDepth 100000 in
set_option maxHeartbeats 1000000 in
theorem span_name (C a : Nat) (s : ByteArray) (ins : Bool) (w : World) (h : Sc w C s a ins) (hs : s.size ≤ 20000) (ha : a ≤ s.size) :
    Calls Tryd.prog 51 #[.pointer (some ⟨C, 0, none⟩), .func (.func 52) #[] #[]] w fun e w' => e = .returned (.int .i64 (spn isLD (s.data.toList.drop a) : Int)) ∧ Drawn w w' := by
  have HS := Lib.hid h
  clear h
  go_enter Tryd.func51, Tryd.ntmps51
  go_wp2
  go_loopw [5] (fun i wr => ∃ k : Nat, k ≤ spn isLD (s.data.toList.drop a) ∧ i = .int .i64 k ∧ Drawn w wr) (fun i _ => s.size - (intOf i).toNat)
  case atStart => exact ⟨0, Nat.zero_le _, rfl, Drawn.refl _⟩
  case round =>
    obtain ⟨k, hk, rfl, hd⟩ := hrel
    obtain ⟨c0, c1, c2, f0, f1, f2, hlt⟩ := (HS.out.drawn hd).cells
    have HD := Lib.hid hd
    have HK := Lib.hid hk
    clear hd
    have hl : k ≤ s.size - a := by have := spn_le isLD (s.data.toList.drop a); simp at this; omega
    clear hk
    by_cases hlt2 : a + k < s.size
    · have hb1 : (0 : Int) ≤ (a : Int) + k := by omega
      have hb2 : (a : Int) + k < (s.size : Int) := by omega
      have HB := Lib.hid (byte_drop s a k hlt2)
      go_wp2_with fail
      have hw1 : IntKind.i64.wrap ((a : Int) + k) = (a : Int) + k := IntWalk.i64_in _ (by omega)
      have ht1 : ((a : Int) + k).toNat = a + k := by omega
      have hg : decide ((a : Int) + k < (s.size : Int)) = true := by simp; omega
      go_quiet ((go_at_call 52; exact quiet_left (ld_any _ _)))
      clear hw1
      go_wp2
      · have hp : isLD s[a + k].toNat = true := by assumption
        go_roundw
        case rel => exact ⟨k + 1, spn_more _ _ _ HK.out (by simp; omega) (by rw [HB.out]; exact hp), by go_num, HD.out.more _⟩
        case measure => simp [intOf]; omega
      · have hp : isLD s[a + k].toNat = false := by assumption
        go_ret
        exact ⟨ret_int (by rw [← spn_stop _ _ _ HK.out (fun _ => by rw [HB.out]; exact hp)]), HD.out.more _⟩
    · have hb1 : (0 : Int) ≤ (a : Int) + k := by omega
      go_wp2_with fail
      have hw1 : IntKind.i64.wrap ((a : Int) + k) = (a : Int) + k := IntWalk.i64_in _ (by omega)
      have hg : decide ((a : Int) + k < (s.size : Int)) = false := by simp; omega
      go_quiet (fail)
      clear hw1
      go_wp2
      go_ret
      exact ⟨ret_int (by rw [← spn_stop _ _ _ HK.out (fun g => by simp at g; omega)]), HD.out.more _⟩

set_option maxRecDepth 100000 in
set_option maxHeartbeats 1000000 in
theorem span_feed (C a : Nat) (s : ByteArray) (ins : Bool) (w : World) (h : Sc w C s a ins) (hs : s.size ≤ 20000) (ha : a ≤ s.size) :
    Calls Tryd.prog 51 #[.pointer (some ⟨C, 0, none⟩), .func (.func 55) #[] #[]] w fun e w' => e = .returned (.int .i64 (spn notFeed (s.data.toList.drop a) : Int)) ∧ Drawn w w' := by
  have HS := Lib.hid h
  clear h
  go_enter Tryd.func51, Tryd.ntmps51
  go_wp2
  go_loopw [5] (fun i wr => ∃ k : Nat, k ≤ spn notFeed (s.data.toList.drop a) ∧ i = .int .i64 k ∧ Drawn w wr) (fun i _ => s.size - (intOf i).toNat)
  case atStart => exact ⟨0, Nat.zero_le _, rfl, Drawn.refl _⟩
  case round =>
    obtain ⟨k, hk, rfl, hd⟩ := hrel
    obtain ⟨c0, c1, c2, f0, f1, f2, hlt⟩ := (HS.out.drawn hd).cells
    have HD := Lib.hid hd
    have HK := Lib.hid hk
    clear hd
    have hl : k ≤ s.size - a := by have := spn_le notFeed (s.data.toList.drop a); simp at this; omega
    clear hk
    by_cases hlt2 : a + k < s.size
    · have hb1 : (0 : Int) ≤ (a : Int) + k := by omega
      have hb2 : (a : Int) + k < (s.size : Int) := by omega
      have HB := Lib.hid (byte_drop s a k hlt2)
      go_wp2_with fail
      have hw1 : IntKind.i64.wrap ((a : Int) + k) = (a : Int) + k := IntWalk.i64_in _ (by omega)
      have ht1 : ((a : Int) + k).toNat = a + k := by omega
      have hg : decide ((a : Int) + k < (s.size : Int)) = true := by simp; omega
      go_quiet ((go_at_call 55; exact quiet_left (feed_any _ _)))
      clear hw1
      go_wp2
      · have hp : notFeed s[a + k].toNat = true := by assumption
        go_roundw
        case rel => exact ⟨k + 1, spn_more _ _ _ HK.out (by simp; omega) (by rw [HB.out]; exact hp), by go_num, HD.out.more _⟩
        case measure => simp [intOf]; omega
      · have hp : notFeed s[a + k].toNat = false := by assumption
        go_ret
        exact ⟨ret_int (by rw [← spn_stop _ _ _ HK.out (fun _ => by rw [HB.out]; exact hp)]), HD.out.more _⟩
    · have hb1 : (0 : Int) ≤ (a : Int) + k := by omega
      go_wp2_with fail
      have hw1 : IntKind.i64.wrap ((a : Int) + k) = (a : Int) + k := IntWalk.i64_in _ (by omega)
      have hg : decide ((a : Int) + k < (s.size : Int)) = false := by simp; omega
      go_quiet (fail)
      clear hw1
      go_wp2
      go_ret
      exact ⟨ret_int (by rw [← spn_stop _ _ _ HK.out (fun g => by simp at g; omega)]), HD.out.more _⟩

end Go.Proofs.YtaalgkcbknlccaaDoor
