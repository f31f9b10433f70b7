/-
  The walks of the program's Comparable and Text.
-/
import Derived.Test.YtijhdlmnoinfiaaGreatDoorFE
import Derived.Test.YtijhdlmnoinfiaaGreatDoorED
set_option linter.all false
namespace Go.Proofs.YtijhdlmnoinfiaaGreatDoor
open Go.RowKit T T.Fo Ty

theorem isK_yes {n k : Int} {s : ByteArray} (h : k = n) (h' : s.toList = []) : isK n k s = true := by unfold isK emp; simp [h, h']
theorem isK_no {n k : Int} {s : ByteArray} (h : ¬ k = n ∨ ¬ s.toList = []) : isK n k s = false := by
  unfold isK emp
  rcases h with h | h <;> simp [h]
theorem rB3 (s : ByteArray) : rB 3 s = false := rB_out (.inl (by omega))
theorem cm_a {k k' : Int} {s s' : ByteArray} (h : isK 3 k s = true) : cmB k s k' s' = rB k' s' := by
  unfold cmB
  have e : k = 3 := by unfold isK at h; simp at h; exact h.1
  rw [h, e, rB3]; simp
theorem cm_b {k k' : Int} {s s' : ByteArray} (h : isK 3 k' s' = true) : cmB k s k' s' = rB k s := by
  unfold cmB
  have e : k' = 3 := by unfold isK at h; simp at h; exact h.1
  rw [h, e, rB3]; simp
theorem cm_c {k k' : Int} {s s' : ByteArray} (h : isK 3 k s = false) (h' : isK 3 k' s' = false) : cmB k s k' s' = (Ty.sm k s k' s' && valB k s && !decide (k = 5) && !decide (k = 7)) := by
  unfold cmB; rw [h, h']; simp
theorem cm_no {k k' : Int} {s s' : ByteArray} (h : isK 3 k s = false) (h' : isK 3 k' s' = false) (hx : ¬ k = k' ∨ ¬ s.toList = s'.toList ∨ k = 5 ∨ k = 7) : false = cmB k s k' s' := by
  rw [cm_c h h']
  unfold Ty.sm
  rcases hx with hx | hx | hx | hx <;> simp [hx]
theorem cm_yes {k k' : Int} {s s' : ByteArray} (h : isK 3 k s = false) (h' : isK 3 k' s' = false) (h1 : k = k') (h2 : s.toList = s'.toList) (h5 : ¬ k = 5) (h7 : ¬ k = 7) : valB k s = cmB k s k' s' := by
  rw [cm_c h h']
  unfold Ty.sm
  simp [h2, h5, h7, ← h1]
set_option maxRecDepth 100000 in
set_option maxHeartbeats 4000000 in
theorem ycompare_any (k : Int) (s : ByteArray) (k' : Int) (s' : ByteArray) (w : World) (hm : s.size ≤ maxLen) (hm' : s'.size ≤ maxLen) (hG : Glob w) : Calls Tryz.prog 25 #[tyv k s, tyv k' s'] w fun e w' => e = .returned (.bool (cmB k s k' s')) ∧ Below w.heap.size w w' := by
  have HV : Hid (∀ kk V, Below w.heap.size w V → Calls Tryz.prog 20 #[tyv kk s] V fun e w' => e = .returned (.bool (valB kk s)) ∧ Below V.heap.size V w') := Lib.hid fun kk V hV => yvalue_any kk s V hm (glob_below hG hV)
  have HR : Hid (∀ kk V, Below w.heap.size w V → Calls Tryz.prog 41 #[tyv kk s] V fun e w' => e = .returned (.bool (rB kk s)) ∧ Below V.heap.size V w') := Lib.hid fun kk V hV => yref_any kk s V hm (glob_below hG hV)
  have HR2 : Hid (∀ kk V, Below w.heap.size w V → Calls Tryz.prog 41 #[tyv kk s'] V fun e w' => e = .returned (.bool (rB kk s')) ∧ Below V.heap.size V w') := Lib.hid fun kk V hV => yref_any kk s' V hm' (glob_below hG hV)
  have HP : Hid (Calls Tryz.prog 36 #[.int .i64 3] ((w.alloc (.cells #[.int .i64 k, .string s] 24)).alloc (.cells #[.int .i64 k', .string s'] 24)) fun e V => e = .returned (tyv 3 ⟨#[]⟩) ∧ S2 w k s k' s' V) := Lib.hid ((plain_any 3 _).mono fun e V hq => ⟨hq.1, (S2.start w k s k' s').keep hq.2⟩)
  clear hm hm' hG
  go_enter Tryz.func25, Tryz.ntmps25
  go_wp2_with fail
  refine HP.out.mono ?_
  rintro e V ⟨rfl, hS⟩
  obtain ⟨vz, va0, va1, vc0, vc1, vb⟩ := hS
  have HB := Lib.hid vb
  have vz0 : w.heap.size < V.heap.size := by omega
  have vn0 : w.heap.size ≠ V.heap.size := by omega
  have vn1 : w.heap.size + 1 ≠ V.heap.size := by omega
  have HBA : Hid (∀ o, Below w.heap.size w (V.alloc o)) := Lib.hid fun o => vb.alloc (by omega) o
  clear vb
  go_wp2_with (first
    | (go_at_call 41; (with_reducible refine (HR.out _ _ ?_).mono ?_); (exact HBA.out _); rintro e w1 ⟨rfl, hb⟩; have HB1 := Lib.hid ((HBA.out _).trans (hb.mono (by simp; omega))); clear hb)
    | (go_at_call 41; (with_reducible refine (HR2.out _ _ ?_).mono ?_); (exact HBA.out _); rintro e w1 ⟨rfl, hb⟩; have HB1 := Lib.hid ((HBA.out _).trans (hb.mono (by simp; omega))); clear hb)
    | (go_at_call 20; (with_reducible refine (HV.out _ _ ?_).mono ?_); (exact HBA.out _); rintro e w1 ⟨rfl, hb⟩; have HB1 := Lib.hid ((HBA.out _).trans (hb.mono (by simp; omega))); clear hb))
  all_goals go_ret
  all_goals first
    | refine ⟨ret_bool ?_, HB1.out⟩
    | refine ⟨ret_bool ?_, HBA.out _⟩
  all_goals clear HV HR HR2 HP HB HBA
  all_goals first
    | exact (cm_a (isK_yes ‹k = 3› ‹s.toList = []›)).symm
    | (rw [cm_b (k := k) (s := s) (isK_yes ‹k' = 3› ‹s'.toList = []›)]; done)
    | (rw [cm_b (k := k) (s := s) (isK_yes ‹k' = 3› ‹s'.toList = []›), ‹k = 3›]; done)
    | (refine cm_no (isK_no ?_) (isK_no ?_) ?_
       · first
           | exact .inl ‹¬ k = 3›
           | exact .inr ‹¬ s.toList = []›
       · first
           | exact .inl ‹¬ k' = 3›
           | exact .inr ‹¬ s'.toList = []›
       · first
           | exact .inr (.inl ‹¬ s.toList = s'.toList›)
           | exact .inl (by omega)
           | exact .inr (.inr (.inl ‹k = 5›))
           | (have hx := ‹(k == 5) = true ∨ (k == 7) = true›
              simp only [beq_iff_eq] at hx
              exact .inr (.inr hx)))
    | (have hx := ‹(k == 5) = false ∧ (k == 7) = false›
       simp only [beq_eq_false_iff_ne, ne_eq] at hx
       rw [← cm_yes (isK_no (.inl ‹¬ k = 3›)) (isK_no (.inl ‹¬ k' = 3›)) ‹k = k'› ‹s.toList = s'.toList› hx.1 hx.2, ‹k = k'›])
    | (have h3 := ‹k = 3›
       rw [← cm_yes (isK_no (.inr ‹¬ s.toList = []›)) (isK_no (.inr ‹¬ s'.toList = []›)) (h3.trans ‹k' = 3›.symm) ‹s.toList = s'.toList› (by omega) (by omega), h3])
    | skip
end Go.Proofs.YtijhdlmnoinfiaaGreatDoor
