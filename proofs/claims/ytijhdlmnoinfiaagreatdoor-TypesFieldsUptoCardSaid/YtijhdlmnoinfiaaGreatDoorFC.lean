/-
  The walks of the program's isName, valid, isReference, Cell, Text.
-/
import Derived.Test.YtijhdlmnoinfiaaGreatDoorFB
set_option linter.all false
namespace Go.Proofs.YtijhdlmnoinfiaaGreatDoor
open Go.RowKit T T.Fo Ty

theorem rB_in {k : Int} {s : ByteArray} (h : 4 ≤ k) (h' : k ≤ 7) : rB k s = vB k s := by unfold rB; simp [h, h']
theorem rB_out {k : Int} {s : ByteArray} (h : k < 4 ∨ 7 < k) : rB k s = false := by
  unfold rB
  rcases h with h | h
  · have : decide (4 ≤ k) = false := decide_eq_false (by omega)
    rw [this]; simp
  · have : decide (k ≤ 7) = false := decide_eq_false (by omega)
    rw [this]; simp
theorem tyB_ptr (s : ByteArray) : tyB ⟨8, s, 0, 0, 0, ⟨#[]⟩, 0, 0⟩ .nil = nam s := by
  unfold tyB; rw [← nm_eq]
  show (true && nm s && true) = nm s
  simp
set_option maxRecDepth 100000 in
set_option maxHeartbeats 1000000 in
theorem yIsName_any (s : ByteArray) (w : World) (hm : s.size ≤ maxLen) (hG : Glob w) : Calls Tryz.prog 47 #[.string s] w fun e w' => e = .returned (.bool (nam s)) ∧ Below w.heap.size w w' := by
  have HC : Hid (Calls Tryz.prog 37 #[nv ⟨8, s, 0, 0, 0, ⟨#[]⟩, 0, 0⟩ none 0 0] w fun e w' => e = .returned (.bool (nam s)) ∧ Below w.heap.size w w') := Lib.hid (by
    rw [← tyB_ptr]
    exact yIsType_any ⟨8, s, 0, 0, 0, ⟨#[]⟩, 0, 0⟩ .nil none 0 w hG (.inl rfl) (Nat.le_refl _) ⟨by show (Lit.int .i64 0).wf = true; decide, hm⟩ trivial (by simp [Fo.cnt]))
  clear hm hG
  go_enter Tryz.func47, Tryz.ntmps47
  go_wp2_with fail
  refine HC.out.mono ?_
  rintro e w1 ⟨rfl, hb⟩
  have HB := Lib.hid hb
  clear hb
  go_wp2
  go_ret
  exact ⟨rfl, HB.out⟩
set_option maxRecDepth 100000 in
set_option maxHeartbeats 1000000 in
theorem yvalid_any (k : Int) (s : ByteArray) (w : World) (hm : s.size ≤ maxLen) (hG : Glob w) : Calls Tryz.prog 40 #[tyv k s] w fun e w' => e = .returned (.bool (vB k s)) ∧ Below w.heap.size w w' := by
  have HC : Hid (∀ o, Calls Tryz.prog 47 #[.string s] (w.alloc o) fun e w' => e = .returned (.bool (nam s)) ∧ Below (w.alloc o).heap.size (w.alloc o) w') := Lib.hid fun o => yIsName_any s _ hm (glob_below hG (b1 w o))
  clear hm hG
  go_enter Tryz.func40, Tryz.ntmps40
  go_wp2_with (go_at_call 47; refine (HC.out _).mono ?_; rintro e w' ⟨rfl, hb⟩; have HB := Lib.hid (b1t hb); clear hb)
  all_goals go_ret
  all_goals first
    | refine ⟨ret_bool ?_, HB.out⟩
    | refine ⟨ret_bool ?_, b1 _ _⟩
  all_goals first
    | (have h4 : k = 4 := by simp_all
       subst h4; rfl)
    | (have h4 : ¬ k = 4 := by simp_all
       unfold vB emp
       rw [if_neg h4, ← ise]
       first
         | (simp_all; done)
         | (have h0 : decide (0 ≤ k) = true := decide_eq_true (by assumption)
            have h1 : decide (k ≤ 12) = true := decide_eq_true (by assumption)
            rw [h0, h1]; simp_all; done)
         | (have h1 : decide (k ≤ 12) = false := decide_eq_false (by omega)
            rw [h1]; simp_all; done)
         | (have h1 : decide (0 ≤ k) = false := decide_eq_false (by omega)
            rw [h1]; simp_all; done))
set_option maxRecDepth 100000 in
set_option maxHeartbeats 1000000 in
theorem yref_any (k : Int) (s : ByteArray) (w : World) (hm : s.size ≤ maxLen) (hG : Glob w) : Calls Tryz.prog 41 #[tyv k s] w fun e w' => e = .returned (.bool (rB k s)) ∧ Below w.heap.size w w' := by
  have HC : Hid (∀ kk o, Calls Tryz.prog 40 #[tyv kk s] (w.alloc o) fun e w' => e = .returned (.bool (vB kk s)) ∧ Below (w.alloc o).heap.size (w.alloc o) w') := Lib.hid fun kk o => yvalid_any kk s _ hm (glob_below hG (b1 w o))
  clear hm hG
  go_enter Tryz.func41, Tryz.ntmps41
  go_wp2_with (go_at_call 40; refine (HC.out _ _).mono ?_; rintro e w' ⟨rfl, hb⟩; have HB := Lib.hid (b1t hb); clear hb)
  all_goals go_ret
  all_goals first
    | refine ⟨ret_bool ?_, HB.out⟩
    | refine ⟨ret_bool ?_, b1 _ _⟩
  all_goals simp only [beq_iff_eq, beq_eq_false_iff_ne, ne_eq] at *
  all_goals first
    | exact (rB_in (by omega) (by omega)).symm
    | exact (rB_out (by omega)).symm
set_option maxRecDepth 100000 in
set_option maxHeartbeats 1000000 in
theorem ycell_any (k : Int) (s : ByteArray) (w : World) (hm : s.size ≤ maxLen) (hG : Glob w) : Calls Tryz.prog 18 #[tyv k s] w fun e w' => e = .returned (.int .i64 (celB k s)) ∧ Below w.heap.size w w' := by
  obtain ⟨v, hv⟩ : ∃ v, rB k s = v := ⟨_, rfl⟩
  have H : Hid (∀ o, Calls Tryz.prog 41 #[tyv k s] (w.alloc o) fun e w' => e = .returned (.bool v) ∧ Below (w.alloc o).heap.size (w.alloc o) w') := Lib.hid fun o => hv ▸ yref_any k s _ hm (glob_below hG (b1 w o))
  have HV := Lib.hid hv
  clear hv hG
  cases v <;>
  · go_enter Tryz.func18, Tryz.ntmps18
    go_wp2_with (go_at_call 41; refine (H.out _).mono ?_; rintro e w' ⟨rfl, hb⟩; have HB := Lib.hid (b1t hb); clear hb)
    go_ret
    exact ⟨ret_int (by unfold celB; rw [HV.out]; rfl), HB.out⟩
end Go.Proofs.YtijhdlmnoinfiaaGreatDoor
