/-
  The walk of integer.
-/
import Derived.Test.YticbcnhbpbaocaaGreatDoorWB
import Derived.Test.YticbcnhbpbaocaaGreatDoorShelf
import Derived.Test.YticbcnhbpbaocaaGreatDoorMA
import Derived.Lib.ConvBytes
import Derived.Deep.AppendLies

set_option linter.all false
namespace Go.Proofs.YticbcnhbpbaocaaGreatDoor
open Go.RowKit M

/-- What the package-level variables hold. -/
def Glob (w : World) : Prop :=
  (∃ te pe, w.cell? ⟨4, 0, none⟩ = some (.iface te pe)) ∧ (∀ i, i < 27 → w.cell? ⟨0, i, none⟩ = some (.string ⟨(opArr.getD i []).toArray⟩)) ∧ 4 < w.heap.size
theorem Glob.keep {w w' : World} {C : Nat} (h : Glob w) (g : w.grownBy w' (some C)) (hC : 4 < C) : Glob w' := by
  obtain ⟨⟨te, pe, h1⟩, h2, h3⟩ := h
  refine ⟨⟨te, pe, (g.cell_far _ (by exact h3) (by intro e; have e2 : (4 : Nat) = C := Option.some.inj e; omega)).trans h1⟩, fun i hi => (g.cell_far _ (by show 0 < _; omega) (by intro e; have e2 : (0 : Nat) = C := Option.some.inj e; omega)).trans (h2 i hi), by have := g.size; omega⟩

theorem below_ok {w w' : World} (h : w' = w ∨ ∃ t, w' = Lib.bytesWorld w 5 t) : Below w.heap.size w w' := by
  rcases h with rfl | ⟨t, rfl⟩
  · exact Below.refl _ _
  · exact ⟨rfl, rfl, rfl, by rw [Lib.bytesWorld_size]; omega, fun k hk => Lib.bytesWorld_at_old w 5 t k (by omega)⟩

/-- ParseInt at a text that it takes; at one that is too great. -/
theorem parse_ok (t : ByteArray) (hmax : t.size ≤ 20000) (v : Int) (h : Lib.parseIntB 64 t.data.toList = .ok v) (w : World) :
    Calls Tryz.prog 157 #[.string t, .int .i64 10, .int .i64 64] w fun e w' => e = .returned (.tuple #[.int .i64 v, .nilIface]) ∧ Below w.heap.size w w' :=
  (Tryz.strconv_ParseInt_10_at64_ok t (by omega) v h w).mono fun _ _ ⟨he, hw⟩ => ⟨he, below_ok hw⟩
theorem parse_range (t : ByteArray) (hmax : t.size ≤ 20000) (h : Lib.parseIntB 64 t.data.toList = .range) (w : World) (hg : Glob w) :
    Calls Tryz.prog 157 #[.string t, .int .i64 10, .int .i64 64] w fun e w' => ∃ v N, e = .returned (.tuple #[.int .i64 v, .iface 133 (.pointer (some ⟨N, 0, none⟩))]) ∧ Below w.heap.size w w' := by
  obtain ⟨te, pe, h1⟩ := hg.1
  exact (Tryz.strconv_ParseInt_10_at64_range t (by omega) h _ w h1 (.inr ⟨te, pe, rfl⟩)).mono fun _ _ ⟨N, he, _, _, hw⟩ => ⟨_, N, he, hw⟩

set_option maxRecDepth 100000 in
set_option maxHeartbeats 1000000 in
theorem int_lead (C a : Nat) (s : ByteArray) (ins : Bool) (w : World) (h : Sc w C s a ins) (hs : s.size ≤ 20000) (ha : a < s.size) (v : Int) (hv : Lib.parseIntB 64 (s.extract a (a + spn isD (s.data.toList.drop a))).data.toList = .ok v) (c : Nat) (hi : 0 < (s.extract a (a + spn isD (s.data.toList.drop a))).size) (hc : ((s.extract a (a + spn isD (s.data.toList.drop a)))[0]'hi).toNat = c) (hl : 1 < (spn isD (s.data.toList.drop a))) (h48 : ((c : Int) == 48) = true) :
    Calls Tryz.prog 142 #[.pointer (some ⟨C, 0, none⟩)] w (Ends w C s 0 ⟨#[]⟩ 0 4 a ins) := by
  have HV := Lib.hid hv
  clear hv
  have hl2 : (1 : Int) < ((spn isD (s.data.toList.drop a)) : Int) := by omega
  have HS := Lib.hid h
  have hC := h.lt
  clear h
  have hn1 : a + (spn isD (s.data.toList.drop a)) ≤ s.size := by have := spn_le isD (s.data.toList.drop a); simp at this; omega
  have hb1 : (0 : Int) ≤ (a : Int) + (spn isD (s.data.toList.drop a)) := by omega
  have hb0 : (0 : Int) ≤ (a : Int) := by omega
  have hb2 : (a : Int) ≤ (a : Int) + (spn isD (s.data.toList.drop a)) := by omega
  have hb3 : (a : Int) + (spn isD (s.data.toList.drop a)) ≤ (s.size : Int) := by omega
  go_enter Tryz.func142, Tryz.ntmps142
  go_wp2_with fail
  refine (span_digits C a s ins _ (HS.out.alloc _) hs (by omega)).mono ?_
  rintro e w1 ⟨rfl, hdr⟩
  have HS1 := Lib.hid ((HS.out.alloc box0).drawn hdr)
  obtain ⟨c0, c1, c2, f0, f1, f2, hlt⟩ := HS1.out.cells
  have HG1 := Lib.hid (only_drawn (only_refl (w.alloc box0) C) hdr)
  clear hdr
  go_wp2_with fail
  have hw1 : IntKind.i64.wrap ((a : Int) + (spn isD (s.data.toList.drop a))) = (a : Int) + (spn isD (s.data.toList.drop a)) := IntWalk.i64_in _ (by omega)
  have ht1 : ((a : Int) + (spn isD (s.data.toList.drop a))).toNat = a + (spn isD (s.data.toList.drop a)) := by omega
  go_quiet (fail)
  clear hw1 ht1 c0 c1 c2 f0 f1 f2
  go_wp2_with fail
  refine (parse_ok _ (by simp; omega) v HV.out _).mono ?_
  rintro e w2 ⟨rfl, hb⟩
  have HG2 := Lib.hid (only_below (only_drewN HG1.out nq) hb (by have := HG1.out.size; exact this))
  have HS2 := Lib.hid ((HS1.out.drewN nq).below hb (by exact hlt))
  obtain ⟨q, g, l1, l2⟩ := box_behind hC HG2.out
  obtain ⟨⟨x0, c0⟩, ⟨x1, c1⟩, ⟨x2, c2⟩, f0, f1, f2⟩ := box_facts q
  obtain ⟨A, r0, r1, r2⟩ := box_done (.int .i64 0) (.string ⟨#[]⟩) (.int .i64 0) HS2.out g q (Nat.le_refl _) (by omega)
  have HA := Lib.hid A
  clear A hb g q
  go_wp2_with (go_at_call 139; refine (letter_any _ _).mono ?_; rintro e w' ⟨rfl, rfl⟩)
  exact bodyPost_ret (v := .tuple #[tv 0 ⟨#[]⟩ 0, .int .i64 4]) (by simp [results, Tryz.results142, go_sem, r0, r1, r2]) rfl ⟨rfl, HA.out⟩

set_option maxRecDepth 100000 in
set_option maxHeartbeats 1000000 in
theorem int_letter1 (C a : Nat) (s : ByteArray) (ins : Bool) (w : World) (h : Sc w C s a ins) (hs : s.size ≤ 20000) (ha : a < s.size) (v : Int) (hv : Lib.parseIntB 64 (s.extract a (a + spn isD (s.data.toList.drop a))).data.toList = .ok v) (d : Nat) (hj : 0 < (s.extract (a + spn isD (s.data.toList.drop a)) s.size).size) (hd : ((s.extract (a + spn isD (s.data.toList.drop a)) s.size)[0]'hj).toNat = d) (hl : (spn isD (s.data.toList.drop a)) ≤ 1) (hL : isL d = true) :
    Calls Tryz.prog 142 #[.pointer (some ⟨C, 0, none⟩)] w (Ends w C s 0 ⟨#[]⟩ 0 4 a ins) := by
  have HV := Lib.hid hv
  clear hv
  have hl2 : decide ((1 : Int) < ((spn isD (s.data.toList.drop a)) : Int)) = false := by simp; omega
  have hj2 : 0 < s.size - (a + (spn isD (s.data.toList.drop a))) := by simp at hj; omega
  have hr1 : ¬ (s.extract (a + spn isD (s.data.toList.drop a)) s.size).toList = [] := by
    intro e
    rw [ByteArray.toList_eq] at e
    have : (s.extract (a + spn isD (s.data.toList.drop a)) s.size).size = 0 := by rw [← ByteArray.size_data, ← Array.length_toList, e]; rfl
    omega
  have hr2 : (s.extract (a + spn isD (s.data.toList.drop a)) s.size).toList.isEmpty = false := by simp [hr1]
  have HS := Lib.hid h
  have hC := h.lt
  clear h
  have hn1 : a + (spn isD (s.data.toList.drop a)) ≤ s.size := by have := spn_le isD (s.data.toList.drop a); simp at this; omega
  have hb1 : (0 : Int) ≤ (a : Int) + (spn isD (s.data.toList.drop a)) := by omega
  have hb0 : (0 : Int) ≤ (a : Int) := by omega
  have hb2 : (a : Int) ≤ (a : Int) + (spn isD (s.data.toList.drop a)) := by omega
  have hb3 : (a : Int) + (spn isD (s.data.toList.drop a)) ≤ (s.size : Int) := by omega
  go_enter Tryz.func142, Tryz.ntmps142
  go_wp2_with fail
  refine (span_digits C a s ins _ (HS.out.alloc _) hs (by omega)).mono ?_
  rintro e w1 ⟨rfl, hdr⟩
  have HS1 := Lib.hid ((HS.out.alloc box0).drawn hdr)
  obtain ⟨c0, c1, c2, f0, f1, f2, hlt⟩ := HS1.out.cells
  have HG1 := Lib.hid (only_drawn (only_refl (w.alloc box0) C) hdr)
  clear hdr
  go_wp2_with fail
  have hw1 : IntKind.i64.wrap ((a : Int) + (spn isD (s.data.toList.drop a))) = (a : Int) + (spn isD (s.data.toList.drop a)) := IntWalk.i64_in _ (by omega)
  have ht1 : ((a : Int) + (spn isD (s.data.toList.drop a))).toNat = a + (spn isD (s.data.toList.drop a)) := by omega
  go_quiet (fail)
  clear hw1 ht1 c0 c1 c2 f0 f1 f2
  go_wp2_with fail
  refine (parse_ok _ (by simp; omega) v HV.out _).mono ?_
  rintro e w2 ⟨rfl, hb⟩
  have HG2 := Lib.hid (only_below (only_drewN HG1.out nq) hb (by have := HG1.out.size; exact this))
  have HS2 := Lib.hid ((HS1.out.drewN nq).below hb (by exact hlt))
  obtain ⟨q, g, l1, l2⟩ := box_behind hC HG2.out
  obtain ⟨⟨x0, c0⟩, ⟨x1, c1⟩, ⟨x2, c2⟩, f0, f1, f2⟩ := box_facts q
  obtain ⟨A, r0, r1, r2⟩ := box_done (.int .i64 0) (.string ⟨#[]⟩) (.int .i64 0) HS2.out g q (Nat.le_refl _) (by omega)
  have HA := Lib.hid A
  clear A hb g q
  go_wp2_with (go_at_call 139; refine (letter_any _ _).mono ?_; rintro e w' ⟨rfl, rfl⟩)
  exact bodyPost_ret (v := .tuple #[tv 0 ⟨#[]⟩ 0, .int .i64 4]) (by simp [results, Tryz.results142, go_sem, r0, r1, r2]) rfl ⟨rfl, HA.out⟩

set_option maxRecDepth 100000 in
set_option maxHeartbeats 1000000 in
theorem int_letter2 (C a : Nat) (s : ByteArray) (ins : Bool) (w : World) (h : Sc w C s a ins) (hs : s.size ≤ 20000) (ha : a < s.size) (v : Int) (hv : Lib.parseIntB 64 (s.extract a (a + spn isD (s.data.toList.drop a))).data.toList = .ok v) (c : Nat) (hi : 0 < (s.extract a (a + spn isD (s.data.toList.drop a))).size) (hc : ((s.extract a (a + spn isD (s.data.toList.drop a)))[0]'hi).toNat = c) (d : Nat) (hj : 0 < (s.extract (a + spn isD (s.data.toList.drop a)) s.size).size) (hd : ((s.extract (a + spn isD (s.data.toList.drop a)) s.size)[0]'hj).toNat = d) (hl : 1 < (spn isD (s.data.toList.drop a))) (h48 : ((c : Int) == 48) = false) (hL : isL d = true) :
    Calls Tryz.prog 142 #[.pointer (some ⟨C, 0, none⟩)] w (Ends w C s 0 ⟨#[]⟩ 0 4 a ins) := by
  have HV := Lib.hid hv
  clear hv
  have hl2 : (1 : Int) < ((spn isD (s.data.toList.drop a)) : Int) := by omega
  have hj2 : 0 < s.size - (a + (spn isD (s.data.toList.drop a))) := by simp at hj; omega
  have hr1 : ¬ (s.extract (a + spn isD (s.data.toList.drop a)) s.size).toList = [] := by
    intro e
    rw [ByteArray.toList_eq] at e
    have : (s.extract (a + spn isD (s.data.toList.drop a)) s.size).size = 0 := by rw [← ByteArray.size_data, ← Array.length_toList, e]; rfl
    omega
  have hr2 : (s.extract (a + spn isD (s.data.toList.drop a)) s.size).toList.isEmpty = false := by simp [hr1]
  have HS := Lib.hid h
  have hC := h.lt
  clear h
  have hn1 : a + (spn isD (s.data.toList.drop a)) ≤ s.size := by have := spn_le isD (s.data.toList.drop a); simp at this; omega
  have hb1 : (0 : Int) ≤ (a : Int) + (spn isD (s.data.toList.drop a)) := by omega
  have hb0 : (0 : Int) ≤ (a : Int) := by omega
  have hb2 : (a : Int) ≤ (a : Int) + (spn isD (s.data.toList.drop a)) := by omega
  have hb3 : (a : Int) + (spn isD (s.data.toList.drop a)) ≤ (s.size : Int) := by omega
  go_enter Tryz.func142, Tryz.ntmps142
  go_wp2_with fail
  refine (span_digits C a s ins _ (HS.out.alloc _) hs (by omega)).mono ?_
  rintro e w1 ⟨rfl, hdr⟩
  have HS1 := Lib.hid ((HS.out.alloc box0).drawn hdr)
  obtain ⟨c0, c1, c2, f0, f1, f2, hlt⟩ := HS1.out.cells
  have HG1 := Lib.hid (only_drawn (only_refl (w.alloc box0) C) hdr)
  clear hdr
  go_wp2_with fail
  have hw1 : IntKind.i64.wrap ((a : Int) + (spn isD (s.data.toList.drop a))) = (a : Int) + (spn isD (s.data.toList.drop a)) := IntWalk.i64_in _ (by omega)
  have ht1 : ((a : Int) + (spn isD (s.data.toList.drop a))).toNat = a + (spn isD (s.data.toList.drop a)) := by omega
  go_quiet (fail)
  clear hw1 ht1 c0 c1 c2 f0 f1 f2
  go_wp2_with fail
  refine (parse_ok _ (by simp; omega) v HV.out _).mono ?_
  rintro e w2 ⟨rfl, hb⟩
  have HG2 := Lib.hid (only_below (only_drewN HG1.out nq) hb (by have := HG1.out.size; exact this))
  have HS2 := Lib.hid ((HS1.out.drewN nq).below hb (by exact hlt))
  obtain ⟨q, g, l1, l2⟩ := box_behind hC HG2.out
  obtain ⟨⟨x0, c0⟩, ⟨x1, c1⟩, ⟨x2, c2⟩, f0, f1, f2⟩ := box_facts q
  obtain ⟨A, r0, r1, r2⟩ := box_done (.int .i64 0) (.string ⟨#[]⟩) (.int .i64 0) HS2.out g q (Nat.le_refl _) (by omega)
  have HA := Lib.hid A
  clear A hb g q
  go_wp2_with (go_at_call 139; refine (letter_any _ _).mono ?_; rintro e w' ⟨rfl, rfl⟩)
  exact bodyPost_ret (v := .tuple #[tv 0 ⟨#[]⟩ 0, .int .i64 4]) (by simp [results, Tryz.results142, go_sem, r0, r1, r2]) rfl ⟨rfl, HA.out⟩

set_option maxRecDepth 100000 in
set_option maxHeartbeats 1000000 in
theorem int_end1 (C a : Nat) (s : ByteArray) (ins : Bool) (w : World) (h : Sc w C s a ins) (hs : s.size ≤ 20000) (ha : a < s.size) (v : Int) (hv : Lib.parseIntB 64 (s.extract a (a + spn isD (s.data.toList.drop a))).data.toList = .ok v) (hl : (spn isD (s.data.toList.drop a)) ≤ 1) (hr : (s.extract (a + spn isD (s.data.toList.drop a)) s.size).toList = []) :
    Calls Tryz.prog 142 #[.pointer (some ⟨C, 0, none⟩)] w (Ends w C s 2 (s.extract a (a + spn isD (s.data.toList.drop a))) a 0 (a + (spn isD (s.data.toList.drop a))) (endB 2 (s.extract a (a + spn isD (s.data.toList.drop a))).toList)) := by
  have HV := Lib.hid hv
  clear hv
  have hl2 : decide ((1 : Int) < ((spn isD (s.data.toList.drop a)) : Int)) = false := by simp; omega
  have HS := Lib.hid h
  have hC := h.lt
  clear h
  have hn1 : a + (spn isD (s.data.toList.drop a)) ≤ s.size := by have := spn_le isD (s.data.toList.drop a); simp at this; omega
  have hb1 : (0 : Int) ≤ (a : Int) + (spn isD (s.data.toList.drop a)) := by omega
  have hb0 : (0 : Int) ≤ (a : Int) := by omega
  have hb2 : (a : Int) ≤ (a : Int) + (spn isD (s.data.toList.drop a)) := by omega
  have hb3 : (a : Int) + (spn isD (s.data.toList.drop a)) ≤ (s.size : Int) := by omega
  go_enter Tryz.func142, Tryz.ntmps142
  go_wp2_with fail
  refine (span_digits C a s ins _ (HS.out.alloc _) hs (by omega)).mono ?_
  rintro e w1 ⟨rfl, hdr⟩
  have HS1 := Lib.hid ((HS.out.alloc box0).drawn hdr)
  obtain ⟨c0, c1, c2, f0, f1, f2, hlt⟩ := HS1.out.cells
  have HG1 := Lib.hid (only_drawn (only_refl (w.alloc box0) C) hdr)
  clear hdr
  go_wp2_with fail
  have hw1 : IntKind.i64.wrap ((a : Int) + (spn isD (s.data.toList.drop a))) = (a : Int) + (spn isD (s.data.toList.drop a)) := IntWalk.i64_in _ (by omega)
  have ht1 : ((a : Int) + (spn isD (s.data.toList.drop a))).toNat = a + (spn isD (s.data.toList.drop a)) := by omega
  go_quiet (fail)
  clear hw1 ht1 c0 c1 c2 f0 f1 f2
  go_wp2_with fail
  refine (parse_ok _ (by simp; omega) v HV.out _).mono ?_
  rintro e w2 ⟨rfl, hb⟩
  have HG2 := Lib.hid (only_below (only_drewN HG1.out nq) hb (by have := HG1.out.size; exact this))
  have HS2 := Lib.hid ((HS1.out.drewN nq).below hb (by exact hlt))
  clear hb
  go_wp2_with (go_at_call 139; refine (letter_any _ _).mono ?_; rintro e w' ⟨rfl, rfl⟩)
  refine (take_tok C a _ 2 s ins _ HS2.out hs hn1 (by decide)).mono ?_
  rintro e w3 ⟨rfl, h3, g3⟩
  obtain ⟨q, g, l1, l2⟩ := box_behind hC (only_trans HG2.out g3)
  obtain ⟨⟨x0, c0⟩, ⟨x1, c1⟩, ⟨x2, c2⟩, f0, f1, f2⟩ := box_facts q
  obtain ⟨A, r0, r1, r2⟩ := box_done (.int .i64 2) (.string (s.extract a (a + spn isD (s.data.toList.drop a)))) (.int .i64 (a : Int)) h3 g q (Nat.le_refl _) (by omega)
  have HA := Lib.hid A
  clear A g q h3 g3
  go_wp2
  exact bodyPost_ret (v := .tuple #[tv 2 (s.extract a (a + spn isD (s.data.toList.drop a))) a, .int .i64 0]) (by simp [results, Tryz.results142, go_sem, r0, r1, r2]) rfl ⟨rfl, HA.out⟩

set_option maxRecDepth 100000 in
set_option maxHeartbeats 1000000 in
theorem int_end2 (C a : Nat) (s : ByteArray) (ins : Bool) (w : World) (h : Sc w C s a ins) (hs : s.size ≤ 20000) (ha : a < s.size) (v : Int) (hv : Lib.parseIntB 64 (s.extract a (a + spn isD (s.data.toList.drop a))).data.toList = .ok v) (c : Nat) (hi : 0 < (s.extract a (a + spn isD (s.data.toList.drop a))).size) (hc : ((s.extract a (a + spn isD (s.data.toList.drop a)))[0]'hi).toNat = c) (hl : 1 < (spn isD (s.data.toList.drop a))) (h48 : ((c : Int) == 48) = false) (hr : (s.extract (a + spn isD (s.data.toList.drop a)) s.size).toList = []) :
    Calls Tryz.prog 142 #[.pointer (some ⟨C, 0, none⟩)] w (Ends w C s 2 (s.extract a (a + spn isD (s.data.toList.drop a))) a 0 (a + (spn isD (s.data.toList.drop a))) (endB 2 (s.extract a (a + spn isD (s.data.toList.drop a))).toList)) := by
  have HV := Lib.hid hv
  clear hv
  have hl2 : (1 : Int) < ((spn isD (s.data.toList.drop a)) : Int) := by omega
  have HS := Lib.hid h
  have hC := h.lt
  clear h
  have hn1 : a + (spn isD (s.data.toList.drop a)) ≤ s.size := by have := spn_le isD (s.data.toList.drop a); simp at this; omega
  have hb1 : (0 : Int) ≤ (a : Int) + (spn isD (s.data.toList.drop a)) := by omega
  have hb0 : (0 : Int) ≤ (a : Int) := by omega
  have hb2 : (a : Int) ≤ (a : Int) + (spn isD (s.data.toList.drop a)) := by omega
  have hb3 : (a : Int) + (spn isD (s.data.toList.drop a)) ≤ (s.size : Int) := by omega
  go_enter Tryz.func142, Tryz.ntmps142
  go_wp2_with fail
  refine (span_digits C a s ins _ (HS.out.alloc _) hs (by omega)).mono ?_
  rintro e w1 ⟨rfl, hdr⟩
  have HS1 := Lib.hid ((HS.out.alloc box0).drawn hdr)
  obtain ⟨c0, c1, c2, f0, f1, f2, hlt⟩ := HS1.out.cells
  have HG1 := Lib.hid (only_drawn (only_refl (w.alloc box0) C) hdr)
  clear hdr
  go_wp2_with fail
  have hw1 : IntKind.i64.wrap ((a : Int) + (spn isD (s.data.toList.drop a))) = (a : Int) + (spn isD (s.data.toList.drop a)) := IntWalk.i64_in _ (by omega)
  have ht1 : ((a : Int) + (spn isD (s.data.toList.drop a))).toNat = a + (spn isD (s.data.toList.drop a)) := by omega
  go_quiet (fail)
  clear hw1 ht1 c0 c1 c2 f0 f1 f2
  go_wp2_with fail
  refine (parse_ok _ (by simp; omega) v HV.out _).mono ?_
  rintro e w2 ⟨rfl, hb⟩
  have HG2 := Lib.hid (only_below (only_drewN HG1.out nq) hb (by have := HG1.out.size; exact this))
  have HS2 := Lib.hid ((HS1.out.drewN nq).below hb (by exact hlt))
  clear hb
  go_wp2_with (go_at_call 139; refine (letter_any _ _).mono ?_; rintro e w' ⟨rfl, rfl⟩)
  refine (take_tok C a _ 2 s ins _ HS2.out hs hn1 (by decide)).mono ?_
  rintro e w3 ⟨rfl, h3, g3⟩
  obtain ⟨q, g, l1, l2⟩ := box_behind hC (only_trans HG2.out g3)
  obtain ⟨⟨x0, c0⟩, ⟨x1, c1⟩, ⟨x2, c2⟩, f0, f1, f2⟩ := box_facts q
  obtain ⟨A, r0, r1, r2⟩ := box_done (.int .i64 2) (.string (s.extract a (a + spn isD (s.data.toList.drop a)))) (.int .i64 (a : Int)) h3 g q (Nat.le_refl _) (by omega)
  have HA := Lib.hid A
  clear A g q h3 g3
  go_wp2
  exact bodyPost_ret (v := .tuple #[tv 2 (s.extract a (a + spn isD (s.data.toList.drop a))) a, .int .i64 0]) (by simp [results, Tryz.results142, go_sem, r0, r1, r2]) rfl ⟨rfl, HA.out⟩

set_option maxRecDepth 100000 in
set_option maxHeartbeats 1000000 in
theorem int_ok1 (C a : Nat) (s : ByteArray) (ins : Bool) (w : World) (h : Sc w C s a ins) (hs : s.size ≤ 20000) (ha : a < s.size) (v : Int) (hv : Lib.parseIntB 64 (s.extract a (a + spn isD (s.data.toList.drop a))).data.toList = .ok v) (d : Nat) (hj : 0 < (s.extract (a + spn isD (s.data.toList.drop a)) s.size).size) (hd : ((s.extract (a + spn isD (s.data.toList.drop a)) s.size)[0]'hj).toNat = d) (hl : (spn isD (s.data.toList.drop a)) ≤ 1) (hL : isL d = false) :
    Calls Tryz.prog 142 #[.pointer (some ⟨C, 0, none⟩)] w (Ends w C s 2 (s.extract a (a + spn isD (s.data.toList.drop a))) a 0 (a + (spn isD (s.data.toList.drop a))) (endB 2 (s.extract a (a + spn isD (s.data.toList.drop a))).toList)) := by
  have HV := Lib.hid hv
  clear hv
  have hl2 : decide ((1 : Int) < ((spn isD (s.data.toList.drop a)) : Int)) = false := by simp; omega
  have hj2 : 0 < s.size - (a + (spn isD (s.data.toList.drop a))) := by simp at hj; omega
  have hr1 : ¬ (s.extract (a + spn isD (s.data.toList.drop a)) s.size).toList = [] := by
    intro e
    rw [ByteArray.toList_eq] at e
    have : (s.extract (a + spn isD (s.data.toList.drop a)) s.size).size = 0 := by rw [← ByteArray.size_data, ← Array.length_toList, e]; rfl
    omega
  have hr2 : (s.extract (a + spn isD (s.data.toList.drop a)) s.size).toList.isEmpty = false := by simp [hr1]
  have HS := Lib.hid h
  have hC := h.lt
  clear h
  have hn1 : a + (spn isD (s.data.toList.drop a)) ≤ s.size := by have := spn_le isD (s.data.toList.drop a); simp at this; omega
  have hb1 : (0 : Int) ≤ (a : Int) + (spn isD (s.data.toList.drop a)) := by omega
  have hb0 : (0 : Int) ≤ (a : Int) := by omega
  have hb2 : (a : Int) ≤ (a : Int) + (spn isD (s.data.toList.drop a)) := by omega
  have hb3 : (a : Int) + (spn isD (s.data.toList.drop a)) ≤ (s.size : Int) := by omega
  go_enter Tryz.func142, Tryz.ntmps142
  go_wp2_with fail
  refine (span_digits C a s ins _ (HS.out.alloc _) hs (by omega)).mono ?_
  rintro e w1 ⟨rfl, hdr⟩
  have HS1 := Lib.hid ((HS.out.alloc box0).drawn hdr)
  obtain ⟨c0, c1, c2, f0, f1, f2, hlt⟩ := HS1.out.cells
  have HG1 := Lib.hid (only_drawn (only_refl (w.alloc box0) C) hdr)
  clear hdr
  go_wp2_with fail
  have hw1 : IntKind.i64.wrap ((a : Int) + (spn isD (s.data.toList.drop a))) = (a : Int) + (spn isD (s.data.toList.drop a)) := IntWalk.i64_in _ (by omega)
  have ht1 : ((a : Int) + (spn isD (s.data.toList.drop a))).toNat = a + (spn isD (s.data.toList.drop a)) := by omega
  go_quiet (fail)
  clear hw1 ht1 c0 c1 c2 f0 f1 f2
  go_wp2_with fail
  refine (parse_ok _ (by simp; omega) v HV.out _).mono ?_
  rintro e w2 ⟨rfl, hb⟩
  have HG2 := Lib.hid (only_below (only_drewN HG1.out nq) hb (by have := HG1.out.size; exact this))
  have HS2 := Lib.hid ((HS1.out.drewN nq).below hb (by exact hlt))
  clear hb
  go_wp2_with (go_at_call 139; refine (letter_any _ _).mono ?_; rintro e w' ⟨rfl, rfl⟩)
  refine (take_tok C a _ 2 s ins _ HS2.out hs hn1 (by decide)).mono ?_
  rintro e w3 ⟨rfl, h3, g3⟩
  obtain ⟨q, g, l1, l2⟩ := box_behind hC (only_trans HG2.out g3)
  obtain ⟨⟨x0, c0⟩, ⟨x1, c1⟩, ⟨x2, c2⟩, f0, f1, f2⟩ := box_facts q
  obtain ⟨A, r0, r1, r2⟩ := box_done (.int .i64 2) (.string (s.extract a (a + spn isD (s.data.toList.drop a)))) (.int .i64 (a : Int)) h3 g q (Nat.le_refl _) (by omega)
  have HA := Lib.hid A
  clear A g q h3 g3
  go_wp2
  exact bodyPost_ret (v := .tuple #[tv 2 (s.extract a (a + spn isD (s.data.toList.drop a))) a, .int .i64 0]) (by simp [results, Tryz.results142, go_sem, r0, r1, r2]) rfl ⟨rfl, HA.out⟩

set_option maxRecDepth 100000 in
set_option maxHeartbeats 1000000 in
theorem int_ok2 (C a : Nat) (s : ByteArray) (ins : Bool) (w : World) (h : Sc w C s a ins) (hs : s.size ≤ 20000) (ha : a < s.size) (v : Int) (hv : Lib.parseIntB 64 (s.extract a (a + spn isD (s.data.toList.drop a))).data.toList = .ok v) (c : Nat) (hi : 0 < (s.extract a (a + spn isD (s.data.toList.drop a))).size) (hc : ((s.extract a (a + spn isD (s.data.toList.drop a)))[0]'hi).toNat = c) (d : Nat) (hj : 0 < (s.extract (a + spn isD (s.data.toList.drop a)) s.size).size) (hd : ((s.extract (a + spn isD (s.data.toList.drop a)) s.size)[0]'hj).toNat = d) (hl : 1 < (spn isD (s.data.toList.drop a))) (h48 : ((c : Int) == 48) = false) (hL : isL d = false) :
    Calls Tryz.prog 142 #[.pointer (some ⟨C, 0, none⟩)] w (Ends w C s 2 (s.extract a (a + spn isD (s.data.toList.drop a))) a 0 (a + (spn isD (s.data.toList.drop a))) (endB 2 (s.extract a (a + spn isD (s.data.toList.drop a))).toList)) := by
  have HV := Lib.hid hv
  clear hv
  have hl2 : (1 : Int) < ((spn isD (s.data.toList.drop a)) : Int) := by omega
  have hj2 : 0 < s.size - (a + (spn isD (s.data.toList.drop a))) := by simp at hj; omega
  have hr1 : ¬ (s.extract (a + spn isD (s.data.toList.drop a)) s.size).toList = [] := by
    intro e
    rw [ByteArray.toList_eq] at e
    have : (s.extract (a + spn isD (s.data.toList.drop a)) s.size).size = 0 := by rw [← ByteArray.size_data, ← Array.length_toList, e]; rfl
    omega
  have hr2 : (s.extract (a + spn isD (s.data.toList.drop a)) s.size).toList.isEmpty = false := by simp [hr1]
  have HS := Lib.hid h
  have hC := h.lt
  clear h
  have hn1 : a + (spn isD (s.data.toList.drop a)) ≤ s.size := by have := spn_le isD (s.data.toList.drop a); simp at this; omega
  have hb1 : (0 : Int) ≤ (a : Int) + (spn isD (s.data.toList.drop a)) := by omega
  have hb0 : (0 : Int) ≤ (a : Int) := by omega
  have hb2 : (a : Int) ≤ (a : Int) + (spn isD (s.data.toList.drop a)) := by omega
  have hb3 : (a : Int) + (spn isD (s.data.toList.drop a)) ≤ (s.size : Int) := by omega
  go_enter Tryz.func142, Tryz.ntmps142
  go_wp2_with fail
  refine (span_digits C a s ins _ (HS.out.alloc _) hs (by omega)).mono ?_
  rintro e w1 ⟨rfl, hdr⟩
  have HS1 := Lib.hid ((HS.out.alloc box0).drawn hdr)
  obtain ⟨c0, c1, c2, f0, f1, f2, hlt⟩ := HS1.out.cells
  have HG1 := Lib.hid (only_drawn (only_refl (w.alloc box0) C) hdr)
  clear hdr
  go_wp2_with fail
  have hw1 : IntKind.i64.wrap ((a : Int) + (spn isD (s.data.toList.drop a))) = (a : Int) + (spn isD (s.data.toList.drop a)) := IntWalk.i64_in _ (by omega)
  have ht1 : ((a : Int) + (spn isD (s.data.toList.drop a))).toNat = a + (spn isD (s.data.toList.drop a)) := by omega
  go_quiet (fail)
  clear hw1 ht1 c0 c1 c2 f0 f1 f2
  go_wp2_with fail
  refine (parse_ok _ (by simp; omega) v HV.out _).mono ?_
  rintro e w2 ⟨rfl, hb⟩
  have HG2 := Lib.hid (only_below (only_drewN HG1.out nq) hb (by have := HG1.out.size; exact this))
  have HS2 := Lib.hid ((HS1.out.drewN nq).below hb (by exact hlt))
  clear hb
  go_wp2_with (go_at_call 139; refine (letter_any _ _).mono ?_; rintro e w' ⟨rfl, rfl⟩)
  refine (take_tok C a _ 2 s ins _ HS2.out hs hn1 (by decide)).mono ?_
  rintro e w3 ⟨rfl, h3, g3⟩
  obtain ⟨q, g, l1, l2⟩ := box_behind hC (only_trans HG2.out g3)
  obtain ⟨⟨x0, c0⟩, ⟨x1, c1⟩, ⟨x2, c2⟩, f0, f1, f2⟩ := box_facts q
  obtain ⟨A, r0, r1, r2⟩ := box_done (.int .i64 2) (.string (s.extract a (a + spn isD (s.data.toList.drop a)))) (.int .i64 (a : Int)) h3 g q (Nat.le_refl _) (by omega)
  have HA := Lib.hid A
  clear A g q h3 g3
  go_wp2
  exact bodyPost_ret (v := .tuple #[tv 2 (s.extract a (a + spn isD (s.data.toList.drop a))) a, .int .i64 0]) (by simp [results, Tryz.results142, go_sem, r0, r1, r2]) rfl ⟨rfl, HA.out⟩

set_option maxRecDepth 100000 in
set_option maxHeartbeats 1000000 in
theorem int_range (C a : Nat) (s : ByteArray) (ins : Bool) (w : World) (h : Sc w C s a ins) (hs : s.size ≤ 20000) (ha : a < s.size) (hv : Lib.parseIntB 64 (s.extract a (a + spn isD (s.data.toList.drop a))).data.toList = .range) (hg : Glob w) (hC2 : 4 < C) :
    Calls Tryz.prog 142 #[.pointer (some ⟨C, 0, none⟩)] w (Ends w C s 0 ⟨#[]⟩ 0 4 a ins) := by
  have HV := Lib.hid hv
  clear hv
  have HGl := Lib.hid hg
  clear hg
  have HS := Lib.hid h
  have hC := h.lt
  clear h
  have hn1 : a + (spn isD (s.data.toList.drop a)) ≤ s.size := by have := spn_le isD (s.data.toList.drop a); simp at this; omega
  have hb1 : (0 : Int) ≤ (a : Int) + (spn isD (s.data.toList.drop a)) := by omega
  have hb0 : (0 : Int) ≤ (a : Int) := by omega
  have hb2 : (a : Int) ≤ (a : Int) + (spn isD (s.data.toList.drop a)) := by omega
  have hb3 : (a : Int) + (spn isD (s.data.toList.drop a)) ≤ (s.size : Int) := by omega
  go_enter Tryz.func142, Tryz.ntmps142
  go_wp2_with fail
  refine (span_digits C a s ins _ (HS.out.alloc _) hs (by omega)).mono ?_
  rintro e w1 ⟨rfl, hdr⟩
  have HS1 := Lib.hid ((HS.out.alloc box0).drawn hdr)
  obtain ⟨c0, c1, c2, f0, f1, f2, hlt⟩ := HS1.out.cells
  have HG1 := Lib.hid (only_drawn (only_refl (w.alloc box0) C) hdr)
  clear hdr
  go_wp2_with fail
  have hw1 : IntKind.i64.wrap ((a : Int) + (spn isD (s.data.toList.drop a))) = (a : Int) + (spn isD (s.data.toList.drop a)) := IntWalk.i64_in _ (by omega)
  have ht1 : ((a : Int) + (spn isD (s.data.toList.drop a))).toNat = a + (spn isD (s.data.toList.drop a)) := by omega
  go_quiet (fail)
  clear hw1 ht1 c0 c1 c2 f0 f1 f2
  go_wp2_with fail
  refine (parse_range _ (by simp; omega) HV.out _ ((HGl.out.keep (only_drewN (only_trans (only_alloc (only_refl w C) box0) HG1.out) nq) hC2))).mono ?_
  rintro e w2 ⟨v, N0, rfl, hb⟩
  have HG2 := Lib.hid (only_below (only_drewN HG1.out nq) hb (by have := HG1.out.size; exact this))
  have HS2 := Lib.hid ((HS1.out.drewN nq).below hb (by exact hlt))
  obtain ⟨q, g, l1, l2⟩ := box_behind hC HG2.out
  obtain ⟨⟨x0, c0⟩, ⟨x1, c1⟩, ⟨x2, c2⟩, f0, f1, f2⟩ := box_facts q
  obtain ⟨A, r0, r1, r2⟩ := box_done (.int .i64 0) (.string ⟨#[]⟩) (.int .i64 0) HS2.out g q (Nat.le_refl _) (by omega)
  have HA := Lib.hid A
  clear A hb g q
  go_wp2_with (go_at_call 139; refine (letter_any _ _).mono ?_; rintro e w' ⟨rfl, rfl⟩)
  exact bodyPost_ret (v := .tuple #[tv 0 ⟨#[]⟩ 0, .int .i64 4]) (by simp [results, Tryz.results142, go_sem, r0, r1, r2]) rfl ⟨rfl, HA.out⟩
end Go.Proofs.YticbcnhbpbaocaaGreatDoor
