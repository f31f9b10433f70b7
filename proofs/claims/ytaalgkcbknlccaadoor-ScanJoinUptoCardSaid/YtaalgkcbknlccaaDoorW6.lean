/-
  The walk of name.
-/
import Derived.Test.YtaalgkcbknlccaaDoorW5
namespace Go.Proofs.YtaalgkcbknlccaaDoor
open Go.RowKit M

/-- A method's end: a token and an error; the scanner's block as told; nothing else of what was there has turned. -/
def Ends (w : World) (C : Nat) (s : ByteArray) (k : Nat) (t : ByteArray) (a err a' : Nat) (ins : Bool) (e : Ending) (w' : World) : Prop :=
  e = .returned (.tuple #[tv k t a, .int .i64 (err : Int)]) ∧ Sc w' C s a' ins ∧ w.grownBy w' (some C)

theorem keyword_v {s : ByteArray} {v : Bool} (h : kw s.toList = v) (w : World) : Calls Tryd.prog 17 #[.string s] w fun e w' => e = .returned (.bool v) ∧ w = w' := by
  rw [← h]; exact keyword_any s w

set_option maxRecDepth 100000 in
set_option maxHeartbeats 1000000 in
theorem name_long (C a : Nat) (s : ByteArray) (ins : Bool) (w : World) (h : Sc w C s a ins) (hs : s.size ≤ 20000) (ha : a ≤ s.size) (hn : 32 < spn isLD (s.data.toList.drop a)) :
    Calls Tryd.prog 39 #[.pointer (some ⟨C, 0, none⟩)] w (Ends w C s 0 ⟨#[]⟩ 0 3 a ins) := by
  have HS := Lib.hid h
  have hC := h.lt
  clear h
  have hn1 : a + spn isLD (s.data.toList.drop a) ≤ s.size := by have := spn_le isLD (s.data.toList.drop a); simp at this; omega
  have hd : decide ((32 : Int) < (spn isLD (s.data.toList.drop a) : Int)) = true := by simp; omega
  have hd2 : (32 : Int) < (spn isLD (s.data.toList.drop a) : Int) := by omega
  go_enter Tryd.func39, Tryd.ntmps39
  go_wp2_with fail
  refine (span_name C a s ins _ (HS.out.alloc _) hs ha).mono ?_
  rintro e w1 ⟨rfl, hd⟩
  have HS1 := Lib.hid ((HS.out.alloc box0).drawn hd)
  obtain ⟨q, g, l1, l2⟩ := box_behind hC (only_drawn (only_refl (w.alloc box0) C) hd)
  obtain ⟨⟨x0, c0⟩, ⟨x1, c1⟩, ⟨x2, c2⟩, f0, f1, f2⟩ := box_facts q
  obtain ⟨A, r0, r1, r2⟩ := box_done (.int .i64 0) (.string ⟨#[]⟩) (.int .i64 0) HS1.out g q (Nat.le_refl _) (by omega)
  have HA := Lib.hid A
  clear A hd g q
  go_wp2
  exact bodyPost_ret (v := .tuple #[tv 0 ⟨#[]⟩ 0, .int .i64 3]) (by simp [results, Tryd.results39, go_sem, r0, r1, r2]) rfl ⟨rfl, HA.out⟩

/-- The kind of a name that may be a keyword. -/
def kwKind (x : Bs) : Nat := if kw x then 3 else 1
theorem kw_ends {w w' : World} {C a a' : Nat} {s x : ByteArray} {v b : Bool} {k : Nat} {e : Ending} (hv : kw x.toList = v) (hk : (if v then 3 else 1) = k) (hb : b = endB k x.toList) (h : Ends w C s k x a 0 a' b e w') :
    Ends w C s (kwKind x.toList) x a 0 a' (endB (kwKind x.toList) x.toList) e w' := by
  rw [kwKind, hv, hk, ← hb]; exact h

set_option maxRecDepth 100000 in
set_option maxHeartbeats 1000000 in
theorem name_short (C a : Nat) (s : ByteArray) (ins : Bool) (w : World) (h : Sc w C s a ins) (hs : s.size ≤ 20000) (ha : a ≤ s.size) (hn : ¬ 32 < spn isLD (s.data.toList.drop a)) :
    Calls Tryd.prog 39 #[.pointer (some ⟨C, 0, none⟩)] w (Ends w C s (kwKind (s.extract a (a + spn isLD (s.data.toList.drop a))).toList) (s.extract a (a + spn isLD (s.data.toList.drop a))) a 0 (a + spn isLD (s.data.toList.drop a)) (endB (kwKind (s.extract a (a + spn isLD (s.data.toList.drop a))).toList) (s.extract a (a + spn isLD (s.data.toList.drop a))).toList)) := by
  have HS := Lib.hid h
  have hC := h.lt
  clear h
  have hn1 : a + spn isLD (s.data.toList.drop a) ≤ s.size := by have := spn_le isLD (s.data.toList.drop a); simp at this; omega
  have hd : decide ((32 : Int) < (spn isLD (s.data.toList.drop a) : Int)) = false := by simp; omega
  have hb1 : (0 : Int) ≤ (a : Int) + spn isLD (s.data.toList.drop a) := by omega
  have hb0 : (0 : Int) ≤ (a : Int) := by omega
  have hb2 : (a : Int) ≤ (a : Int) + spn isLD (s.data.toList.drop a) := by omega
  have hb3 : (a : Int) + spn isLD (s.data.toList.drop a) ≤ (s.size : Int) := by omega
  go_enter Tryd.func39, Tryd.ntmps39
  go_wp2_with fail
  refine (span_name C a s ins _ (HS.out.alloc _) hs ha).mono ?_
  rintro e w1 ⟨rfl, hdr⟩
  have HS1 := Lib.hid ((HS.out.alloc box0).drawn hdr)
  obtain ⟨c0, c1, c2, f0, f1, f2, hlt⟩ := HS1.out.cells
  have HG1 := Lib.hid (only_drawn (only_refl (w.alloc box0) C) hdr)
  clear hdr
  go_wp2_with fail
  have hw1 : IntKind.i64.wrap ((a : Int) + spn isLD (s.data.toList.drop a)) = (a : Int) + spn isLD (s.data.toList.drop a) := IntWalk.i64_in _ (by omega)
  have ht1 : ((a : Int) + spn isLD (s.data.toList.drop a)).toNat = a + spn isLD (s.data.toList.drop a) := by omega
  go_quiet ((go_at_call 17; exact quiet_left (keyword_any _ _)))
  clear hw1 ht1 c0 c1 c2 f0 f1 f2
  go_wp2_with fail
  · have HV := Lib.hid (show kw (s.extract a (a + spn isLD (s.data.toList.drop a))).toList = true by assumption)
    refine (take_tok C a _ 3 s ins _ (HS1.out.drewN nq) hs hn1 (by decide)).mono ?_
    rintro e w2 ⟨rfl, h2, g2⟩
    obtain ⟨q, g, l1, l2⟩ := box_behind hC (only_trans (only_drewN HG1.out nq) g2)
    obtain ⟨⟨x0, c0⟩, ⟨x1, c1⟩, ⟨x2, c2⟩, f0, f1, f2⟩ := box_facts q
    obtain ⟨A, r0, r1, r2⟩ := box_done (.int .i64 3) (.string (s.extract a (a + spn isLD (s.data.toList.drop a)))) (.int .i64 (a : Int)) h2 g q (Nat.le_refl _) (by omega)
    have HA := Lib.hid A
    clear A g q h2 g2
    go_wp2
    exact bodyPost_ret (v := .tuple #[tv 3 (s.extract a (a + spn isLD (s.data.toList.drop a))) a, .int .i64 0]) (by simp [results, Tryd.results39, go_sem, r0, r1, r2]) rfl (kw_ends HV.out rfl rfl ⟨rfl, HA.out⟩)
  · have HV := Lib.hid (show kw (s.extract a (a + spn isLD (s.data.toList.drop a))).toList = false by assumption)
    refine (take_tok C a _ 1 s ins _ (HS1.out.drewN nq) hs hn1 (by decide)).mono ?_
    rintro e w2 ⟨rfl, h2, g2⟩
    obtain ⟨q, g, l1, l2⟩ := box_behind hC (only_trans (only_drewN HG1.out nq) g2)
    obtain ⟨⟨x0, c0⟩, ⟨x1, c1⟩, ⟨x2, c2⟩, f0, f1, f2⟩ := box_facts q
    obtain ⟨A, r0, r1, r2⟩ := box_done (.int .i64 1) (.string (s.extract a (a + spn isLD (s.data.toList.drop a)))) (.int .i64 (a : Int)) h2 g q (Nat.le_refl _) (by omega)
    have HA := Lib.hid A
    clear A g q h2 g2
    go_wp2
    exact bodyPost_ret (v := .tuple #[tv 1 (s.extract a (a + spn isLD (s.data.toList.drop a))) a, .int .i64 0]) (by simp [results, Tryd.results39, go_sem, r0, r1, r2]) rfl (kw_ends HV.out rfl rfl ⟨rfl, HA.out⟩)
end Go.Proofs.YtaalgkcbknlccaaDoor
