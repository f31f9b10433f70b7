/-
  The walk of the law TypesBinary.
-/
import Derived.Test.YtijhdlmnoinfiaaGreatDoorGB
import Derived.Test.YtijhdlmnoinfiaaGreatDoorFI
import Derived.Test.YtijhdlmnoinfiaaGreatDoorEE
set_option linter.all false
namespace Go.Proofs.YtijhdlmnoinfiaaGreatDoor
open Go.RowKit T T.Fo Ty

set_option maxRecDepth 100000 in
set_option maxHeartbeats 1000000 in
theorem rbop_any (s : ByteArray) (w : World) : Calls Tryz.prog 29 #[.string s] w fun e w' => e = .returned (.bool (T.isBinary s)) ∧ w = w' := by
  have e : T.isBinary s = binWords.contains s.toList := by unfold T.isBinary; rw [ByteArray.toList_eq]
  rw [e]
  go_enter Tryz.func29, Tryz.ntmps29
  go_wp2
  all_goals go_ret
  all_goals refine ⟨ret_bool ?_, rfl⟩
  all_goals first
    | (refine in_yes (by assumption) (by decide))
    | (simp_all [binWords])
theorem opc_bin {op : ByteArray} (h : opc op ≠ 0) : T.isBinary op = true := by
  unfold T.isBinary
  rw [← ByteArray.toList_eq]
  unfold opc at h
  by_cases e1 : op.toList = [43]; · rw [e1]; decide
  by_cases e2 : op.toList = [45]; · rw [e2]; decide
  by_cases e3 : op.toList = [42]; · rw [e3]; decide
  by_cases e4 : op.toList = [47]; · rw [e4]; decide
  by_cases e5 : op.toList = [37]; · rw [e5]; decide
  by_cases e6 : op.toList = [60]; · rw [e6]; decide
  by_cases e7 : op.toList = [60, 61]; · rw [e7]; decide
  by_cases e8 : op.toList = [62]; · rw [e8]; decide
  by_cases e9 : op.toList = [62, 61]; · rw [e9]; decide
  by_cases e10 : op.toList = [61, 61]; · rw [e10]; decide
  by_cases e11 : op.toList = [33, 61]; · rw [e11]; decide
  by_cases e12 : op.toList = [38, 38]; · rw [e12]; decide
  by_cases e13 : op.toList = [124, 124]; · rw [e13]; decide
  simp only [e1, e2, e3, e4, e5, e6, e7, e8, e9, e10, e11, e12, e13, if_false] at h
  exact absurd rfl h
theorem binC_012 (c : Nat) (k k' : Int) (s s' : ByteArray) : binC c k s k' s' = 0 ∨ (binC c k s k' s' = 1 ∧ c ≠ 0) ∨ (binC c k s k' s' = 2 ∧ c ≠ 0) := by
  unfold binC
  by_cases h1 : c = 1
  · subst h1; simp; cases isK 1 k s <;> cases isK 1 k' s' <;> simp
  by_cases h2 : c = 2
  · subst h2; simp; cases isK 1 k s <;> cases isK 1 k' s' <;> simp
  by_cases h3 : c = 3
  · subst h3; simp; cases cmB k s k' s' <;> simp
  by_cases h4 : c = 4
  · subst h4; simp; cases isK 2 k s <;> cases isK 2 k' s' <;> simp
  · simp [h1, h2, h3, h4]
set_option maxRecDepth 100000 in
set_option maxHeartbeats 8000000 in
theorem binary_law (op : ByteArray) (k : Int) (s : ByteArray) (k' : Int) (s' : ByteArray) (w : World) (hG : Glot w) (hm : s.size ≤ maxLen) (hm' : s'.size ≤ maxLen) : Calls Tryz.prog 7 #[.string op, tyv k s, tyv k' s'] w fun e w' => e = .returned (.bool true) ∧ Below w.heap.size w w' := by
  obtain ⟨n, hn⟩ : ∃ v, binK op k s k' s' = v := ⟨_, rfl⟩
  have H12 : n = 0 ∨ (n = 1 ∧ T.isBinary op = true) ∨ (n = 2 ∧ T.isBinary op = true) := by
    rw [← hn]
    unfold binK
    rcases binC_012 (opc op) k k' s s' with h | ⟨h, h'⟩ | ⟨h, h'⟩
    · exact .inl h
    · exact .inr (.inl ⟨h, opc_bin h'⟩)
    · exact .inr (.inr ⟨h, opc_bin h'⟩)
  obtain ⟨b, hb⟩ : ∃ v, T.isBinary op = v := ⟨_, rfl⟩
  rw [hb] at H12
  have HA : Hid (∀ V, Below w.heap.size w V → Calls Tryz.prog 10 #[] V fun e w' => e = .returned (.bool true) ∧ Below V.heap.size V w') := Lib.hid fun V hV => awake_any V (hG.below hV)
  have H27 : Hid (∀ V, Below w.heap.size w V → Calls Tryz.prog 27 #[.string op, tyv k s, tyv k' s'] V fun e w' => e = .returned (.tuple #[tyv n ⟨#[]⟩, .bool (decide (n ≠ 0))]) ∧ Below V.heap.size V w') := Lib.hid fun V hV => hn ▸ ybin_any op k s k' s' V hm hm' (glob_below hG.1 hV)
  have H28 : Hid (∀ V, Below w.heap.size w V → Calls Tryz.prog 28 #[.string op, tyv k s, tyv k' s'] V fun e w' => e = .returned (.tuple #[tyv n ⟨#[]⟩, .bool (decide (n ≠ 0))]) ∧ Below V.heap.size V w') := Lib.hid fun V hV => hn ▸ rbin_any op k s k' s' V hm hm'
  have H29 : Hid (∀ V, Calls Tryz.prog 29 #[.string op] V fun e w' => e = .returned (.bool b) ∧ V = w') := Lib.hid fun V => hb ▸ rbop_any op V
  have HS := Lib.hid (S2.start w k s k' s')
  clear hG hm hm' hn hb
  have main : ∀ n' : Int, n = n' → (n' = 0 ∨ n' = 1 ∨ n' = 2) → (n' ≠ 0 → b = true) → Calls Tryz.prog 7 #[.string op, tyv k s, tyv k' s'] w fun e w' => e = .returned (.bool true) ∧ Below w.heap.size w w' := by
    rintro n' rfl hc hbt
    rcases hc with rfl | rfl | rfl
    all_goals
      first
        | (have hbt' := hbt (by decide); subst hbt')
        | skip
      clear hbt H12
      go_enter Tryz.func7, Tryz.ntmps7
      go_wp2_with fail
      refine (HA.out _ HS.out.b).mono ?_
      rintro e V ⟨rfl, hb⟩
      have HS1 := Lib.hid (HS.out.keep hb)
      obtain ⟨z, a0, a1, c0, c1, _⟩ := HS1.out
      clear hb
      go_wp2_with fail
      refine (H27.out _ HS1.out.b).mono ?_
      rintro e V2 ⟨rfl, hb⟩
      have HS2 := Lib.hid (HS1.out.keep hb)
      obtain ⟨z2, a20, a21, c20, c21, _⟩ := HS2.out
      clear hb z a0 a1 c0 c1
      have y0 : w.heap.size < V2.heap.size := by omega
      have m0 : ¬ w.heap.size = V2.heap.size := by omega
      have m1 : ¬ w.heap.size + 1 = V2.heap.size := by omega
      go_wp2_with fail
      refine (H28.out _ (HS2.out.b.alloc (by omega) _)).mono ?_
      rintro e V3 ⟨rfl, hb⟩
      have HB := Lib.hid ((HS2.out.b.alloc (by omega) _).trans (hb.mono (by simp; omega)))
      have hbx := (hb.block V2.heap.size (by simp)).trans (heap_alloc_new V2 _)
      obtain ⟨x0, x1, _⟩ := box2 hbx
      have xz : V2.heap.size < V3.heap.size := by have := hb.size; simp only [World.size_alloc] at this; omega
      have xn : ¬ V2.heap.size = V3.heap.size := by omega
      have wz : w.heap.size ≤ V3.heap.size := by omega
      clear hb hbx z2 a20 a21 c20 c21 y0 m0 m1
      go_wp2_with (go_at_call 29; (with_reducible refine (H29.out _).mono ?_); rintro e w' ⟨rfl, rfl⟩)
      go_ret
      exact ⟨rfl, HB.out.alloc wz _⟩
  rcases H12 with h | ⟨h, h'⟩ | ⟨h, h'⟩
  · exact main 0 h (.inl rfl) (fun h => absurd rfl h)
  · exact main 1 h (.inr (.inl rfl)) (fun _ => h')
  · exact main 2 h (.inr (.inr rfl)) (fun _ => h')
end Go.Proofs.YtijhdlmnoinfiaaGreatDoor
