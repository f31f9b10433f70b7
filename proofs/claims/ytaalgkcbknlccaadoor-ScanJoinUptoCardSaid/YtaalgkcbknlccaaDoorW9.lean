/-
  The walks of separates and more.
-/
import Derived.Test.YtaalgkcbknlccaaDoorW5
namespace Go.Proofs.YtaalgkcbknlccaaDoor
open Go.RowKit M

theorem sep_of {b : Nat} {ins v : Bool} (h : v = true ↔ ((b : Int) = 32 ∨ (b : Int) = 9 ∨ (b : Int) = 13 ∨ ((b : Int) = 10 ∧ ins = false))) : v = sep ins b := by
  unfold sep
  cases ins
  · rw [Bool.eq_iff_iff, h]; simp; omega
  · rw [Bool.eq_iff_iff, h]; simp; omega
theorem quiet_drew {P : Program} {f : FuncId} {args : Array Value} {w : World} {n : Nat} {v : Value}
    (h : Calls P f args (w.drewN n) fun e w' => e = .returned v ∧ Drawn (w.drewN n) w') : Calls P f args (w.drewN n) fun e w'' => e = .returned v ∧ ∃ m, w'' = w.drewN m :=
  h.mono fun _ _ ⟨he, m, hm⟩ => ⟨he, n + m, hm.trans (World.drewN_drewN _ _ _)⟩

set_option maxRecDepth 100000 in
set_option maxHeartbeats 1000000 in
theorem separates_any (C a b : Nat) (s : ByteArray) (ins : Bool) (w : World) (h : Sc w C s a ins) :
    Calls Tryd.prog 36 #[.pointer (some ⟨C, 0, none⟩), .int .u8 (b : Int)] w fun e w' => e = .returned (.bool (sep ins b)) ∧ Drawn w w' := by
  obtain ⟨c0, c1, c2, f0, f1, f2, hlt⟩ := h.cells
  clear h
  by_cases h1 : b = 32
  · subst h1
    go_enter Tryd.func36, Tryd.ntmps36
    go_wp2
    go_ret
    exact ⟨ret_bool (sep_of (by simp)), Drawn.refl _⟩
  by_cases h2 : b = 9
  · subst h2
    go_enter Tryd.func36, Tryd.ntmps36
    go_wp2
    go_ret
    exact ⟨ret_bool (sep_of (by simp)), Drawn.refl _⟩
  by_cases h3 : b = 13
  · subst h3
    go_enter Tryd.func36, Tryd.ntmps36
    go_wp2
    go_ret
    exact ⟨ret_bool (sep_of (by simp)), Drawn.refl _⟩
  have g1 : ((b : Int) == 32) = false := by simp; omega
  have g2 : ((b : Int) == 9) = false := by simp; omega
  have g3 : ((b : Int) == 13) = false := by simp; omega
  by_cases h4 : b = 10
  · subst h4
    clear g1 g2 g3
    cases ins
    all_goals
      go_enter Tryd.func36, Tryd.ntmps36
      go_wp2
      go_ret
      exact ⟨ret_bool (sep_of (by simp)), by first | exact Drawn.refl _ | exact ⟨1, rfl⟩⟩
  have g4 : ((b : Int) == 10) = false := by simp; omega
  have H1 := Lib.hid h1
  have H2 := Lib.hid h2
  have H3 := Lib.hid h3
  have H4 := Lib.hid h4
  clear h1 h2 h3 h4
  go_enter Tryd.func36, Tryd.ntmps36
  go_wp2
  go_ret
  exact ⟨ret_bool (sep_of (by have := H1.out; have := H2.out; have := H3.out; have := H4.out; simp; omega)), Drawn.refl _⟩

theorem byte_drop2 (s : ByteArray) (a m : Nat) (h1 : a ≤ m) (h : m < s.size) : ((s.data.toList.drop a).getD (m - a) 0).toNat = s[m].toNat := by
  obtain ⟨k, rfl⟩ : ∃ k, m = a + k := ⟨m - a, by omega⟩
  rw [Nat.add_sub_cancel_left]
  exact byte_drop s a k h

set_option maxRecDepth 100000 in
set_option maxHeartbeats 1000000 in
theorem more_any (C a : Nat) (s : ByteArray) (ins : Bool) (w : World) (h : Sc w C s a ins) (hs : s.size ≤ 20000) (ha : a ≤ s.size) :
    Calls Tryd.prog 30 #[.pointer (some ⟨C, 0, none⟩)] w fun e w' => e = .returned (.bool (decide (a + spn (sep ins) (s.data.toList.drop a) < s.size))) ∧ Sc w' C s (a + spn (sep ins) (s.data.toList.drop a)) ins ∧ w.grownBy w' (some C) := by
  have HS := Lib.hid h
  clear h
  go_enter Tryd.func30, Tryd.ntmps30
  go_wp2
  go_loopw [3] (fun i wr => ∃ m : Nat, a ≤ m ∧ m - a ≤ spn (sep ins) (s.data.toList.drop a) ∧ Sc wr C s m ins ∧ w.grownBy wr (some C)) (fun _ wr => s.size - (intOf ((wr.cell? ⟨C, 1, none⟩).getD .nilIface)).toNat)
  case atStart => exact ⟨a, Nat.le_refl _, by omega, HS.out, only_refl _ _⟩
  case round =>
    obtain ⟨m, ham, hk, hsc, hg⟩ := hrel
    obtain ⟨c0, c1, c2, f0, f1, f2, hlt⟩ := hsc.cells
    have HSC := Lib.hid hsc
    have HG := Lib.hid hg
    have HK := Lib.hid hk
    clear hsc hg
    have hl : m ≤ s.size := by have := spn_le (sep ins) (s.data.toList.drop a); simp at this; omega
    clear hk
    by_cases hlt2 : m < s.size
    · have hb1 : (0 : Int) ≤ (m : Int) := by omega
      have hb2 : (m : Int) < (s.size : Int) := by omega
      have hgd : decide ((m : Int) < (s.size : Int)) = true := by simp; omega
      have HB := Lib.hid (byte_drop2 s a m ham hlt2)
      go_wp2_with fail
      go_quiet ((go_at_call 36; exact quiet_drew (separates_any C m _ s ins _ (HSC.out.drewN _))))
      go_wp2
      · have hp : sep ins s[m].toNat = true := by assumption
        have HS2 := Lib.hid ((HSC.out.drewN nq).setAt (m + 1) ((m : Int) + 1) (by omega))
        have HG2 := Lib.hid (only_set (p := ⟨C, 1, none⟩) (only_drewN HG.out nq) (.inl rfl) (.int .i64 ((m : Int) + 1)))
        go_roundw
        case rel => exact ⟨m + 1, by omega, by have := spn_more _ _ _ HK.out (by simp; omega) (by rw [HB.out]; exact hp); omega, HS2.out, HG2.out⟩
        case measure => rw [HS2.out.cells.2.1, c1]; simp [intOf]; omega
      · have hp : sep ins s[m].toNat = false := by assumption
        go_quiet (fail)
        go_wp2
        go_ret
        have e := spn_stop _ _ _ HK.out (fun _ => by rw [HB.out]; exact hp)
        have e2 : a + spn (sep ins) (s.data.toList.drop a) = m := by omega
        rw [e2]
        exact ⟨ret_bool (by simp; omega), (HSC.out.drewN _).drewN _, only_drewN (only_drewN HG.out _) _⟩
    · have hgd : decide ((m : Int) < (s.size : Int)) = false := by simp; omega
      go_wp2_with fail
      go_quiet (fail)
      go_wp2_with fail
      go_quiet (fail)
      go_wp2
      go_ret
      have e := spn_stop _ _ _ HK.out (fun g => by simp at g; omega)
      have e2 : a + spn (sep ins) (s.data.toList.drop a) = m := by omega
      rw [e2]
      exact ⟨ret_bool (by simp; omega), (HSC.out.drewN _).drewN _, only_drewN (only_drewN HG.out _) _⟩
end Go.Proofs.YtaalgkcbknlccaaDoor
