/-
  The walk of operator.
-/
import Derived.Test.YtaalgkcbknlccaaDoorW7
import Derived.Laws.Rows
namespace Go.Proofs.YtaalgkcbknlccaaDoor
open Go.RowKit M

/-- The array of the operators. -/
def opCells : Array Value := #[.string ⟨#[58, 61]⟩, .string ⟨#[61, 61]⟩, .string ⟨#[33, 61]⟩, .string ⟨#[60, 61]⟩, .string ⟨#[62, 61]⟩, .string ⟨#[38, 38]⟩, .string ⟨#[124, 124]⟩, .string ⟨#[60, 45]⟩, .string ⟨#[40]⟩, .string ⟨#[41]⟩, .string ⟨#[91]⟩, .string ⟨#[93]⟩, .string ⟨#[123]⟩, .string ⟨#[125]⟩, .string ⟨#[44]⟩, .string ⟨#[59]⟩, .string ⟨#[58]⟩, .string ⟨#[46]⟩, .string ⟨#[61]⟩, .string ⟨#[60]⟩, .string ⟨#[62]⟩, .string ⟨#[43]⟩, .string ⟨#[45]⟩, .string ⟨#[42]⟩, .string ⟨#[47]⟩, .string ⟨#[37]⟩, .string ⟨#[33]⟩]
theorem opCells_at (k : Nat) (hk : k < 27) : opCells[k]? = some (.string ⟨(opArr.getD k []).toArray⟩) := by
  match k, hk with
  | 0, _ => rfl
  | 1, _ => rfl
  | 2, _ => rfl
  | 3, _ => rfl
  | 4, _ => rfl
  | 5, _ => rfl
  | 6, _ => rfl
  | 7, _ => rfl
  | 8, _ => rfl
  | 9, _ => rfl
  | 10, _ => rfl
  | 11, _ => rfl
  | 12, _ => rfl
  | 13, _ => rfl
  | 14, _ => rfl
  | 15, _ => rfl
  | 16, _ => rfl
  | 17, _ => rfl
  | 18, _ => rfl
  | 19, _ => rfl
  | 20, _ => rfl
  | 21, _ => rfl
  | 22, _ => rfl
  | 23, _ => rfl
  | 24, _ => rfl
  | 25, _ => rfl
  | 26, _ => rfl
  | _ + 27, h => exact absurd h (by omega)

theorem load_ops (w : World) (h : Glob w) : (loadVar 70 ⟨0, 0, none⟩).run Tryd.prog w = .ok (.agg opCells) w := by
  have hl : (loadCells ⟨0, 0, none⟩ opCells.toList.length).run Tryd.prog w = .ok opCells.toList.toArray w :=
    run_loadCells_list (P := Tryd.prog) w ⟨0, 0, none⟩ opCells.toList (fun j v hv => by
      have hadd : (⟨0, 0, none⟩ : Addr).add j = ⟨0, j, none⟩ := by unfold Addr.add; split <;> simp_all
      have hj : j < 27 := by
        have := (List.getElem?_eq_some_iff.1 hv).1
        exact this
      rw [hadd, h.2.1 j hj, ← opCells_at j hj]
      simpa using hv)
  have hagg : (isAgg 70).run Tryd.prog w = .ok true w := by
    unfold isAgg
    rw [Sem.run_bind, run_underlying Tryd.underlying70 w]
    rfl
  have hi : (Tryd.prog.info? 70).map (·.size) = some 27 := by kernel_rfl
  cases hq : Tryd.prog.info? 70 with
  | none => simp [hq] at hi
  | some i =>
    have hs : i.size = 27 := by simpa [hq] using hi
    simp only [Array.length_toList, Array.toArray_toList] at hl
    have hl2 : (loadCells ⟨0, 0, none⟩ 27).run Tryd.prog w = .ok opCells w := hl
    simp [loadVar, Sem.run_bind, hagg, sizeOf, typeInfo, hq, hs, hl2]

theorem index_0 (w : World) : (Instr.index 70 (.agg opCells) (.int .i64 0)).run Tryd.prog w = .ok (.string ⟨(opArr.getD 0 []).toArray⟩) w := by kernel_rfl
theorem index_1 (w : World) : (Instr.index 70 (.agg opCells) (.int .i64 1)).run Tryd.prog w = .ok (.string ⟨(opArr.getD 1 []).toArray⟩) w := by kernel_rfl
theorem index_2 (w : World) : (Instr.index 70 (.agg opCells) (.int .i64 2)).run Tryd.prog w = .ok (.string ⟨(opArr.getD 2 []).toArray⟩) w := by kernel_rfl
theorem index_3 (w : World) : (Instr.index 70 (.agg opCells) (.int .i64 3)).run Tryd.prog w = .ok (.string ⟨(opArr.getD 3 []).toArray⟩) w := by kernel_rfl
theorem index_4 (w : World) : (Instr.index 70 (.agg opCells) (.int .i64 4)).run Tryd.prog w = .ok (.string ⟨(opArr.getD 4 []).toArray⟩) w := by kernel_rfl
theorem index_5 (w : World) : (Instr.index 70 (.agg opCells) (.int .i64 5)).run Tryd.prog w = .ok (.string ⟨(opArr.getD 5 []).toArray⟩) w := by kernel_rfl
theorem index_6 (w : World) : (Instr.index 70 (.agg opCells) (.int .i64 6)).run Tryd.prog w = .ok (.string ⟨(opArr.getD 6 []).toArray⟩) w := by kernel_rfl
theorem index_7 (w : World) : (Instr.index 70 (.agg opCells) (.int .i64 7)).run Tryd.prog w = .ok (.string ⟨(opArr.getD 7 []).toArray⟩) w := by kernel_rfl
theorem index_8 (w : World) : (Instr.index 70 (.agg opCells) (.int .i64 8)).run Tryd.prog w = .ok (.string ⟨(opArr.getD 8 []).toArray⟩) w := by kernel_rfl
theorem index_9 (w : World) : (Instr.index 70 (.agg opCells) (.int .i64 9)).run Tryd.prog w = .ok (.string ⟨(opArr.getD 9 []).toArray⟩) w := by kernel_rfl
theorem index_10 (w : World) : (Instr.index 70 (.agg opCells) (.int .i64 10)).run Tryd.prog w = .ok (.string ⟨(opArr.getD 10 []).toArray⟩) w := by kernel_rfl
theorem index_11 (w : World) : (Instr.index 70 (.agg opCells) (.int .i64 11)).run Tryd.prog w = .ok (.string ⟨(opArr.getD 11 []).toArray⟩) w := by kernel_rfl
theorem index_12 (w : World) : (Instr.index 70 (.agg opCells) (.int .i64 12)).run Tryd.prog w = .ok (.string ⟨(opArr.getD 12 []).toArray⟩) w := by kernel_rfl
theorem index_13 (w : World) : (Instr.index 70 (.agg opCells) (.int .i64 13)).run Tryd.prog w = .ok (.string ⟨(opArr.getD 13 []).toArray⟩) w := by kernel_rfl
theorem index_14 (w : World) : (Instr.index 70 (.agg opCells) (.int .i64 14)).run Tryd.prog w = .ok (.string ⟨(opArr.getD 14 []).toArray⟩) w := by kernel_rfl
theorem index_15 (w : World) : (Instr.index 70 (.agg opCells) (.int .i64 15)).run Tryd.prog w = .ok (.string ⟨(opArr.getD 15 []).toArray⟩) w := by kernel_rfl
theorem index_16 (w : World) : (Instr.index 70 (.agg opCells) (.int .i64 16)).run Tryd.prog w = .ok (.string ⟨(opArr.getD 16 []).toArray⟩) w := by kernel_rfl
theorem index_17 (w : World) : (Instr.index 70 (.agg opCells) (.int .i64 17)).run Tryd.prog w = .ok (.string ⟨(opArr.getD 17 []).toArray⟩) w := by kernel_rfl
theorem index_18 (w : World) : (Instr.index 70 (.agg opCells) (.int .i64 18)).run Tryd.prog w = .ok (.string ⟨(opArr.getD 18 []).toArray⟩) w := by kernel_rfl
theorem index_19 (w : World) : (Instr.index 70 (.agg opCells) (.int .i64 19)).run Tryd.prog w = .ok (.string ⟨(opArr.getD 19 []).toArray⟩) w := by kernel_rfl
theorem index_20 (w : World) : (Instr.index 70 (.agg opCells) (.int .i64 20)).run Tryd.prog w = .ok (.string ⟨(opArr.getD 20 []).toArray⟩) w := by kernel_rfl
theorem index_21 (w : World) : (Instr.index 70 (.agg opCells) (.int .i64 21)).run Tryd.prog w = .ok (.string ⟨(opArr.getD 21 []).toArray⟩) w := by kernel_rfl
theorem index_22 (w : World) : (Instr.index 70 (.agg opCells) (.int .i64 22)).run Tryd.prog w = .ok (.string ⟨(opArr.getD 22 []).toArray⟩) w := by kernel_rfl
theorem index_23 (w : World) : (Instr.index 70 (.agg opCells) (.int .i64 23)).run Tryd.prog w = .ok (.string ⟨(opArr.getD 23 []).toArray⟩) w := by kernel_rfl
theorem index_24 (w : World) : (Instr.index 70 (.agg opCells) (.int .i64 24)).run Tryd.prog w = .ok (.string ⟨(opArr.getD 24 []).toArray⟩) w := by kernel_rfl
theorem index_25 (w : World) : (Instr.index 70 (.agg opCells) (.int .i64 25)).run Tryd.prog w = .ok (.string ⟨(opArr.getD 25 []).toArray⟩) w := by kernel_rfl
theorem index_26 (w : World) : (Instr.index 70 (.agg opCells) (.int .i64 26)).run Tryd.prog w = .ok (.string ⟨(opArr.getD 26 []).toArray⟩) w := by kernel_rfl
theorem index_ops (k : Nat) (hk : k < 27) (w : World) : (Instr.index 70 (.agg opCells) (.int .i64 (k : Int))).run Tryd.prog w = .ok (.string ⟨(opArr.getD k []).toArray⟩) w := by
  match k, hk with
  | 0, _ => exact index_0 w
  | 1, _ => exact index_1 w
  | 2, _ => exact index_2 w
  | 3, _ => exact index_3 w
  | 4, _ => exact index_4 w
  | 5, _ => exact index_5 w
  | 6, _ => exact index_6 w
  | 7, _ => exact index_7 w
  | 8, _ => exact index_8 w
  | 9, _ => exact index_9 w
  | 10, _ => exact index_10 w
  | 11, _ => exact index_11 w
  | 12, _ => exact index_12 w
  | 13, _ => exact index_13 w
  | 14, _ => exact index_14 w
  | 15, _ => exact index_15 w
  | 16, _ => exact index_16 w
  | 17, _ => exact index_17 w
  | 18, _ => exact index_18 w
  | 19, _ => exact index_19 w
  | 20, _ => exact index_20 w
  | 21, _ => exact index_21 w
  | 22, _ => exact index_22 w
  | 23, _ => exact index_23 w
  | 24, _ => exact index_24 w
  | 25, _ => exact index_25 w
  | 26, _ => exact index_26 w
  | _ + 27, h => exact absurd h (by omega)

/-- The first operator that stands at the head, from number k on. -/
theorem wp_load_ops {ops : Array Oper} {rest : List Oper} {o : Oper} {a : Act} {w : World} {Q : Exit → Act → World → Prop} (hgd : o.guard = none) (x : Operand) (ho : o.op = .load 70 x)
    (hx : a.eval x = .pointer (some ⟨0, 0, none⟩)) (hg : Glob w) (h : wpList Tryd.prog ops Q rest (a.put o.dst (.agg opCells)) w) : wpList Tryd.prog ops Q (o :: rest) a w :=
  wpList_plain hgd fun _ hK => by
    unfold Oper.wp execOp
    simp only [ho, hx, Instr.loadAt, Instr.sureAddr, Sem.run_bind, Sem.run_pure, Result.andThen_ok, load_ops w hg]
    exact hK _ _ h

def opK (k : Nat) : ByteArray := ⟨(opArr.getD k []).toArray⟩

theorem prefix_v {s p : ByteArray} {v : Bool} (h : Lib.hasPrefix s.data.toList p.data.toList = v) (w : World) : Calls Tryd.prog 42 #[.string s, .string p] w fun e w' => e = .returned (.bool v) ∧ w = w' :=
  (Tryd.strings_HasPrefix s p w).mono fun _ _ ⟨he, hw⟩ => ⟨by rw [he, h], hw.symm⟩
theorem index_opK (k : Nat) (hk : k < 27) (w : World) : (Instr.index 70 (.agg opCells) (.int .i64 (k : Int))).run Tryd.prog w = .ok (.string (opK k)) w := index_ops k hk w

/-- One round of operator that finds nothing. -/
def NoOp (s : ByteArray) (a k : Nat) : Prop := Lib.hasPrefix (s.extract a s.size).data.toList (opK k).data.toList = false

set_option maxRecDepth 100000 in
set_option maxHeartbeats 1000000 in
theorem operator_hit (C a j : Nat) (s : ByteArray) (ins : Bool) (w : World) (h : Sc w C s a ins) (hs : s.size ≤ 20000) (ha : a < s.size) (hG : Glob w) (hC2 : 2 < C) (hj : j < 27)
    (hlo : ∀ k, k < j → NoOp s a k) (hhi : Lib.hasPrefix (s.extract a s.size).data.toList (opK j).data.toList = true) (n : Nat) (hn : (opK j).size = n) (hna : a + n ≤ s.size) :
    Calls Tryd.prog 44 #[.pointer (some ⟨C, 0, none⟩)] w (Ends w C s 4 (s.extract a (a + n)) a 0 (a + n) (endB 4 (s.extract a (a + n)).toList)) := by
  have HS := Lib.hid h
  have hC := h.lt
  have HG := Lib.hid hG
  have HL := Lib.hid hlo
  have HH := Lib.hid hhi
  have HN := Lib.hid hn
  clear h hG hlo hhi hn
  have hb0 : (0 : Int) ≤ (a : Int) := by omega
  have hb3 : (a : Int) ≤ (s.size : Int) := by omega
  go_enter Tryd.func44, Tryd.ntmps44
  go_wp2_with (refine wp_load_ops rfl _ rfl rfl (HG.out.keep (only_alloc (only_refl w C) box0) hC2) ?_)
  go_loopw [7] (fun i wr => ∃ k : Nat, k ≤ j ∧ i = .int .i64 k ∧ Drawn (w.alloc box0) wr) (fun i _ => 27 - (intOf i).toNat)
  case atStart => exact ⟨0, Nat.zero_le _, rfl, Drawn.refl _⟩
  case round =>
    obtain ⟨k, hk, rfl, hd⟩ := hrel
    have HS1 := Lib.hid ((HS.out.alloc box0).drawn hd)
    have HG1 := Lib.hid (only_drawn (only_refl (w.alloc box0) C) hd)
    obtain ⟨c0, c1, c2, f0, f1, f2, hlt⟩ := HS1.out.cells
    have HD := Lib.hid hd
    clear hd
    have hk27 : (k : Int) < 27 := by omega
    have hix := index_opK k (by omega)
    by_cases hkj : k < j
    · go_wp2_with fail
      go_quiet ((go_at_call 42; exact quiet_left (prefix_v (HL.out k hkj) _)))
      clear hix
      go_wp2_with fail
      go_roundw
      case rel => exact ⟨k + 1, by omega, by go_num, HD.out.more _⟩
      case measure => simp [intOf]; omega
    · obtain rfl : k = j := by omega
      go_wp2_with fail
      go_quiet ((go_at_call 42; exact quiet_left (prefix_v HH.out _)))
      clear hix c0 c1 c2 f0 f1 f2
      have hn := HN.out
      go_wp2_with fail
      refine (take_tok C a n 4 s ins _ (HS1.out.drewN nq) hs hna (by decide)).mono ?_
      rintro e w2 ⟨rfl, h2, g2⟩
      obtain ⟨q, g, l1, l2⟩ := box_behind hC (only_trans (only_drewN HG1.out nq) g2)
      obtain ⟨⟨x0, c0⟩, ⟨x1, c1⟩, ⟨x2, c2⟩, f0, f1, f2⟩ := box_facts q
      obtain ⟨A, r0, r1, r2⟩ := box_done (.int .i64 4) (.string (s.extract a (a + n))) (.int .i64 (a : Int)) h2 g q (Nat.le_refl _) (by omega)
      have HA := Lib.hid A
      clear A g q h2 g2
      go_wp2
      exact bodyPost_ret (v := .tuple #[tv 4 (s.extract a (a + n)) a, .int .i64 0]) (by simp [results, Tryd.results44, go_sem, r0, r1, r2]) rfl ⟨rfl, HA.out⟩

set_option maxRecDepth 100000 in
set_option maxHeartbeats 1000000 in
theorem operator_none (C a : Nat) (s : ByteArray) (ins : Bool) (w : World) (h : Sc w C s a ins) (ha : a < s.size) (hG : Glob w) (hC2 : 2 < C)
    (hlo : ∀ k, k < 27 → NoOp s a k) :
    Calls Tryd.prog 44 #[.pointer (some ⟨C, 0, none⟩)] w (Ends w C s 0 ⟨#[]⟩ 0 4 a ins) := by
  have HS := Lib.hid h
  have hC := h.lt
  have HG := Lib.hid hG
  have HL := Lib.hid hlo
  clear h hG hlo
  have hb0 : (0 : Int) ≤ (a : Int) := by omega
  have hb3 : (a : Int) ≤ (s.size : Int) := by omega
  go_enter Tryd.func44, Tryd.ntmps44
  go_wp2_with (refine wp_load_ops rfl _ rfl rfl (HG.out.keep (only_alloc (only_refl w C) box0) hC2) ?_)
  go_loopw [7] (fun i wr => ∃ k : Nat, k ≤ 27 ∧ i = .int .i64 k ∧ Drawn (w.alloc box0) wr) (fun i _ => 27 - (intOf i).toNat)
  case atStart => exact ⟨0, Nat.zero_le _, rfl, Drawn.refl _⟩
  case round =>
    obtain ⟨k, hk, rfl, hd⟩ := hrel
    have HS1 := Lib.hid ((HS.out.alloc box0).drawn hd)
    have HG1 := Lib.hid (only_drawn (only_refl (w.alloc box0) C) hd)
    by_cases hkj : k < 27
    · obtain ⟨c0, c1, c2, f0, f1, f2, hlt⟩ := HS1.out.cells
      have HD := Lib.hid hd
      clear hd
      have hk27 : (k : Int) < 27 := by omega
      have hix := index_opK k (by omega)
      go_wp2_with fail
      go_quiet ((go_at_call 42; exact quiet_left (prefix_v (HL.out k hkj) _)))
      clear hix
      go_wp2_with fail
      go_roundw
      case rel => exact ⟨k + 1, by omega, by go_num, HD.out.more _⟩
      case measure => simp [intOf]; omega
    · obtain rfl : k = 27 := by omega
      clear hd
      obtain ⟨q, g, l1, l2⟩ := box_behind hC HG1.out
      obtain ⟨⟨x0, c0⟩, ⟨x1, c1⟩, ⟨x2, c2⟩, f0, f1, f2⟩ := box_facts q
      obtain ⟨A, r0, r1, r2⟩ := box_done (.int .i64 0) (.string ⟨#[]⟩) (.int .i64 0) HS1.out g q (Nat.le_refl _) (by omega)
      have HA := Lib.hid A
      clear A g q
      go_wp2
      exact bodyPost_ret (v := .tuple #[tv 0 ⟨#[]⟩ 0, .int .i64 4]) (by simp [results, Tryd.results44, go_sem, r0, r1, r2]) rfl ⟨rfl, HA.out⟩
end Go.Proofs.YtaalgkcbknlccaaDoor
