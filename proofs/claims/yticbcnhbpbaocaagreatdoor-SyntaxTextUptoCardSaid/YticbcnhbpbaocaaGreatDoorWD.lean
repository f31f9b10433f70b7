/-
  The walk of operator.
  The walks of separates and more.
  The walk of next.
  next, as the mathematics tells it.
  next, in one word.
  The walk of read.
  The walk of slices.IndexFunc at tokens.
  The walk of slices.DeleteFunc at tokens.
  The walks of Scan and Comments.
-/
import Derived.Test.YticbcnhbpbaocaaGreatDoorWC
import Derived.Laws.Rows
import Derived.Test.YticbcnhbpbaocaaGreatDoorWB
import Derived.Lib.IndexBytes
import Derived.Deep.AppendLies
import Derived.Laws.CopyRow
import Derived.Test.YticbcnhbpbaocaaGreatDoorMA

set_option linter.all false
namespace Go.Proofs.YticbcnhbpbaocaaGreatDoor
open Go.RowKit M

/-- The array of the operators. -/
def opCells : Array Value := #[.string ⟨#[58, 61]⟩, .string ⟨#[61, 61]⟩, .string ⟨#[33, 61]⟩, .string ⟨#[60, 61]⟩, .string ⟨#[62, 61]⟩, .string ⟨#[38, 38]⟩, .string ⟨#[124, 124]⟩, .string ⟨#[60, 45]⟩, .string ⟨#[40]⟩, .string ⟨#[41]⟩, .string ⟨#[91]⟩, .string ⟨#[93]⟩, .string ⟨#[123]⟩, .string ⟨#[125]⟩, .string ⟨#[44]⟩, .string ⟨#[59]⟩, .string ⟨#[58]⟩, .string ⟨#[46]⟩, .string ⟨#[61]⟩, .string ⟨#[60]⟩, .string ⟨#[62]⟩, .string ⟨#[43]⟩, .string ⟨#[45]⟩, .string ⟨#[42]⟩, .string ⟨#[47]⟩, .string ⟨#[37]⟩, .string ⟨#[33]⟩]
theorem opCells_at (k : Nat) (hk : k < 27) : opCells[k]? = some (.string ⟨(opArr.getD k []).toArray⟩) := by
  match k, hk with
  | 0, _ => rfl
  | 1, _ => rfl
  | 2, _ => rfl
  | 3, _ => rfl
  | 4, _ => rfl
  | 5, _ => rfl
  | 6, _ => rfl
  | 7, _ => rfl
  | 8, _ => rfl
  | 9, _ => rfl
  | 10, _ => rfl
  | 11, _ => rfl
  | 12, _ => rfl
  | 13, _ => rfl
  | 14, _ => rfl
  | 15, _ => rfl
  | 16, _ => rfl
  | 17, _ => rfl
  | 18, _ => rfl
  | 19, _ => rfl
  | 20, _ => rfl
  | 21, _ => rfl
  | 22, _ => rfl
  | 23, _ => rfl
  | 24, _ => rfl
  | 25, _ => rfl
  | 26, _ => rfl
  | _ + 27, h => exact absurd h (by omega)

theorem load_ops (w : World) (h : Glob w) : (loadVar 121 ⟨0, 0, none⟩).run Tryz.prog w = .ok (.agg opCells) w := by
  have hl : (loadCells ⟨0, 0, none⟩ opCells.toList.length).run Tryz.prog w = .ok opCells.toList.toArray w :=
    run_loadCells_list (P := Tryz.prog) w ⟨0, 0, none⟩ opCells.toList (fun j v hv => by
      have hadd : (⟨0, 0, none⟩ : Addr).add j = ⟨0, j, none⟩ := by unfold Addr.add; split <;> simp_all
      have hj : j < 27 := by
        have := (List.getElem?_eq_some_iff.1 hv).1
        exact this
      rw [hadd, h.2.1 j hj, ← opCells_at j hj]
      simpa using hv)
  have hagg : (isAgg 121).run Tryz.prog w = .ok true w := by
    unfold isAgg
    rw [Sem.run_bind, run_underlying Tryz.underlying121 w]
    rfl
  have hi : (Tryz.prog.info? 121).map (·.size) = some 27 := by kernel_rfl
  cases hq : Tryz.prog.info? 121 with
  | none => simp [hq] at hi
  | some i =>
    have hs : i.size = 27 := by simpa [hq] using hi
    simp only [Array.length_toList, Array.toArray_toList] at hl
    have hl2 : (loadCells ⟨0, 0, none⟩ 27).run Tryz.prog w = .ok opCells w := hl
    simp [loadVar, Sem.run_bind, hagg, sizeOf, typeInfo, hq, hs, hl2]

theorem index_0 (w : World) : (Instr.index 121 (.agg opCells) (.int .i64 0)).run Tryz.prog w = .ok (.string ⟨(opArr.getD 0 []).toArray⟩) w := by kernel_rfl
theorem index_1 (w : World) : (Instr.index 121 (.agg opCells) (.int .i64 1)).run Tryz.prog w = .ok (.string ⟨(opArr.getD 1 []).toArray⟩) w := by kernel_rfl
theorem index_2 (w : World) : (Instr.index 121 (.agg opCells) (.int .i64 2)).run Tryz.prog w = .ok (.string ⟨(opArr.getD 2 []).toArray⟩) w := by kernel_rfl
theorem index_3 (w : World) : (Instr.index 121 (.agg opCells) (.int .i64 3)).run Tryz.prog w = .ok (.string ⟨(opArr.getD 3 []).toArray⟩) w := by kernel_rfl
theorem index_4 (w : World) : (Instr.index 121 (.agg opCells) (.int .i64 4)).run Tryz.prog w = .ok (.string ⟨(opArr.getD 4 []).toArray⟩) w := by kernel_rfl
theorem index_5 (w : World) : (Instr.index 121 (.agg opCells) (.int .i64 5)).run Tryz.prog w = .ok (.string ⟨(opArr.getD 5 []).toArray⟩) w := by kernel_rfl
theorem index_6 (w : World) : (Instr.index 121 (.agg opCells) (.int .i64 6)).run Tryz.prog w = .ok (.string ⟨(opArr.getD 6 []).toArray⟩) w := by kernel_rfl
theorem index_7 (w : World) : (Instr.index 121 (.agg opCells) (.int .i64 7)).run Tryz.prog w = .ok (.string ⟨(opArr.getD 7 []).toArray⟩) w := by kernel_rfl
theorem index_8 (w : World) : (Instr.index 121 (.agg opCells) (.int .i64 8)).run Tryz.prog w = .ok (.string ⟨(opArr.getD 8 []).toArray⟩) w := by kernel_rfl
theorem index_9 (w : World) : (Instr.index 121 (.agg opCells) (.int .i64 9)).run Tryz.prog w = .ok (.string ⟨(opArr.getD 9 []).toArray⟩) w := by kernel_rfl
theorem index_10 (w : World) : (Instr.index 121 (.agg opCells) (.int .i64 10)).run Tryz.prog w = .ok (.string ⟨(opArr.getD 10 []).toArray⟩) w := by kernel_rfl
theorem index_11 (w : World) : (Instr.index 121 (.agg opCells) (.int .i64 11)).run Tryz.prog w = .ok (.string ⟨(opArr.getD 11 []).toArray⟩) w := by kernel_rfl
theorem index_12 (w : World) : (Instr.index 121 (.agg opCells) (.int .i64 12)).run Tryz.prog w = .ok (.string ⟨(opArr.getD 12 []).toArray⟩) w := by kernel_rfl
theorem index_13 (w : World) : (Instr.index 121 (.agg opCells) (.int .i64 13)).run Tryz.prog w = .ok (.string ⟨(opArr.getD 13 []).toArray⟩) w := by kernel_rfl
theorem index_14 (w : World) : (Instr.index 121 (.agg opCells) (.int .i64 14)).run Tryz.prog w = .ok (.string ⟨(opArr.getD 14 []).toArray⟩) w := by kernel_rfl
theorem index_15 (w : World) : (Instr.index 121 (.agg opCells) (.int .i64 15)).run Tryz.prog w = .ok (.string ⟨(opArr.getD 15 []).toArray⟩) w := by kernel_rfl
theorem index_16 (w : World) : (Instr.index 121 (.agg opCells) (.int .i64 16)).run Tryz.prog w = .ok (.string ⟨(opArr.getD 16 []).toArray⟩) w := by kernel_rfl
theorem index_17 (w : World) : (Instr.index 121 (.agg opCells) (.int .i64 17)).run Tryz.prog w = .ok (.string ⟨(opArr.getD 17 []).toArray⟩) w := by kernel_rfl
theorem index_18 (w : World) : (Instr.index 121 (.agg opCells) (.int .i64 18)).run Tryz.prog w = .ok (.string ⟨(opArr.getD 18 []).toArray⟩) w := by kernel_rfl
theorem index_19 (w : World) : (Instr.index 121 (.agg opCells) (.int .i64 19)).run Tryz.prog w = .ok (.string ⟨(opArr.getD 19 []).toArray⟩) w := by kernel_rfl
theorem index_20 (w : World) : (Instr.index 121 (.agg opCells) (.int .i64 20)).run Tryz.prog w = .ok (.string ⟨(opArr.getD 20 []).toArray⟩) w := by kernel_rfl
theorem index_21 (w : World) : (Instr.index 121 (.agg opCells) (.int .i64 21)).run Tryz.prog w = .ok (.string ⟨(opArr.getD 21 []).toArray⟩) w := by kernel_rfl
theorem index_22 (w : World) : (Instr.index 121 (.agg opCells) (.int .i64 22)).run Tryz.prog w = .ok (.string ⟨(opArr.getD 22 []).toArray⟩) w := by kernel_rfl
theorem index_23 (w : World) : (Instr.index 121 (.agg opCells) (.int .i64 23)).run Tryz.prog w = .ok (.string ⟨(opArr.getD 23 []).toArray⟩) w := by kernel_rfl
theorem index_24 (w : World) : (Instr.index 121 (.agg opCells) (.int .i64 24)).run Tryz.prog w = .ok (.string ⟨(opArr.getD 24 []).toArray⟩) w := by kernel_rfl
theorem index_25 (w : World) : (Instr.index 121 (.agg opCells) (.int .i64 25)).run Tryz.prog w = .ok (.string ⟨(opArr.getD 25 []).toArray⟩) w := by kernel_rfl
theorem index_26 (w : World) : (Instr.index 121 (.agg opCells) (.int .i64 26)).run Tryz.prog w = .ok (.string ⟨(opArr.getD 26 []).toArray⟩) w := by kernel_rfl
theorem index_ops (k : Nat) (hk : k < 27) (w : World) : (Instr.index 121 (.agg opCells) (.int .i64 (k : Int))).run Tryz.prog w = .ok (.string ⟨(opArr.getD k []).toArray⟩) w := by
  match k, hk with
  | 0, _ => exact index_0 w
  | 1, _ => exact index_1 w
  | 2, _ => exact index_2 w
  | 3, _ => exact index_3 w
  | 4, _ => exact index_4 w
  | 5, _ => exact index_5 w
  | 6, _ => exact index_6 w
  | 7, _ => exact index_7 w
  | 8, _ => exact index_8 w
  | 9, _ => exact index_9 w
  | 10, _ => exact index_10 w
  | 11, _ => exact index_11 w
  | 12, _ => exact index_12 w
  | 13, _ => exact index_13 w
  | 14, _ => exact index_14 w
  | 15, _ => exact index_15 w
  | 16, _ => exact index_16 w
  | 17, _ => exact index_17 w
  | 18, _ => exact index_18 w
  | 19, _ => exact index_19 w
  | 20, _ => exact index_20 w
  | 21, _ => exact index_21 w
  | 22, _ => exact index_22 w
  | 23, _ => exact index_23 w
  | 24, _ => exact index_24 w
  | 25, _ => exact index_25 w
  | 26, _ => exact index_26 w
  | _ + 27, h => exact absurd h (by omega)

/-- The first operator that stands at the head, from number k on. -/
theorem wp_load_ops {ops : Array Oper} {rest : List Oper} {o : Oper} {a : Act} {w : World} {Q : Exit → Act → World → Prop} (hgd : o.guard = none) (x : Operand) (ho : o.op = .load 121 x)
    (hx : a.eval x = .pointer (some ⟨0, 0, none⟩)) (hg : Glob w) (h : wpList Tryz.prog ops Q rest (a.put o.dst (.agg opCells)) w) : wpList Tryz.prog ops Q (o :: rest) a w :=
  wpList_plain hgd fun _ hK => by
    unfold Oper.wp execOp
    simp only [ho, hx, Instr.loadAt, Instr.sureAddr, Sem.run_bind, Sem.run_pure, Result.andThen_ok, load_ops w hg]
    exact hK _ _ h

def opK (k : Nat) : ByteArray := ⟨(opArr.getD k []).toArray⟩

theorem prefix_v {s p : ByteArray} {v : Bool} (h : Lib.hasPrefix s.data.toList p.data.toList = v) (w : World) : Calls Tryz.prog 125 #[.string s, .string p] w fun e w' => e = .returned (.bool v) ∧ w = w' :=
  (Tryz.strings_HasPrefix s p w).mono fun _ _ ⟨he, hw⟩ => ⟨by rw [he, h], hw.symm⟩
theorem index_opK (k : Nat) (hk : k < 27) (w : World) : (Instr.index 121 (.agg opCells) (.int .i64 (k : Int))).run Tryz.prog w = .ok (.string (opK k)) w := index_ops k hk w

/-- One round of operator that finds nothing. -/
def NoOp (s : ByteArray) (a k : Nat) : Prop := Lib.hasPrefix (s.extract a s.size).data.toList (opK k).data.toList = false

set_option maxRecDepth 100000 in
set_option maxHeartbeats 1000000 in
theorem operator_hit (C a j : Nat) (s : ByteArray) (ins : Bool) (w : World) (h : Sc w C s a ins) (hs : s.size ≤ 20000) (ha : a < s.size) (hG : Glob w) (hC2 : 4 < C) (hj : j < 27)
    (hlo : ∀ k, k < j → NoOp s a k) (hhi : Lib.hasPrefix (s.extract a s.size).data.toList (opK j).data.toList = true) (n : Nat) (hn : (opK j).size = n) (hna : a + n ≤ s.size) :
    Calls Tryz.prog 144 #[.pointer (some ⟨C, 0, none⟩)] w (Ends w C s 4 (s.extract a (a + n)) a 0 (a + n) (endB 4 (s.extract a (a + n)).toList)) := by
  have HS := Lib.hid h
  have hC := h.lt
  have HG := Lib.hid hG
  have HL := Lib.hid hlo
  have HH := Lib.hid hhi
  have HN := Lib.hid hn
  clear h hG hlo hhi hn
  have hb0 : (0 : Int) ≤ (a : Int) := by omega
  have hb3 : (a : Int) ≤ (s.size : Int) := by omega
  go_enter Tryz.func144, Tryz.ntmps144
  go_wp2_with (refine wp_load_ops rfl _ rfl rfl (HG.out.keep (only_alloc (only_refl w C) box0) hC2) ?_)
  go_loopw [7] (fun i wr => ∃ k : Nat, k ≤ j ∧ i = .int .i64 k ∧ Drawn (w.alloc box0) wr) (fun i _ => 27 - (intOf i).toNat)
  case atStart => exact ⟨0, Nat.zero_le _, rfl, Drawn.refl _⟩
  case round =>
    obtain ⟨k, hk, rfl, hd⟩ := hrel
    have HS1 := Lib.hid ((HS.out.alloc box0).drawn hd)
    have HG1 := Lib.hid (only_drawn (only_refl (w.alloc box0) C) hd)
    obtain ⟨c0, c1, c2, f0, f1, f2, hlt⟩ := HS1.out.cells
    have HD := Lib.hid hd
    clear hd
    have hk27 : (k : Int) < 27 := by omega
    have hix := index_opK k (by omega)
    by_cases hkj : k < j
    · go_wp2_with fail
      go_quiet ((go_at_call 125; exact quiet_left (prefix_v (HL.out k hkj) _)))
      clear hix
      go_wp2_with fail
      go_roundw
      case rel => exact ⟨k + 1, by omega, by go_num, HD.out.more _⟩
      case measure => simp [intOf]; omega
    · obtain rfl : k = j := by omega
      go_wp2_with fail
      go_quiet ((go_at_call 125; exact quiet_left (prefix_v HH.out _)))
      clear hix c0 c1 c2 f0 f1 f2
      have hn := HN.out
      go_wp2_with fail
      refine (take_tok C a n 4 s ins _ (HS1.out.drewN nq) hs hna (by decide)).mono ?_
      rintro e w2 ⟨rfl, h2, g2⟩
      obtain ⟨q, g, l1, l2⟩ := box_behind hC (only_trans (only_drewN HG1.out nq) g2)
      obtain ⟨⟨x0, c0⟩, ⟨x1, c1⟩, ⟨x2, c2⟩, f0, f1, f2⟩ := box_facts q
      obtain ⟨A, r0, r1, r2⟩ := box_done (.int .i64 4) (.string (s.extract a (a + n))) (.int .i64 (a : Int)) h2 g q (Nat.le_refl _) (by omega)
      have HA := Lib.hid A
      clear A g q h2 g2
      go_wp2
      exact bodyPost_ret (v := .tuple #[tv 4 (s.extract a (a + n)) a, .int .i64 0]) (by simp [results, Tryz.results144, go_sem, r0, r1, r2]) rfl ⟨rfl, HA.out⟩

set_option maxRecDepth 100000 in
set_option maxHeartbeats 1000000 in
theorem operator_none (C a : Nat) (s : ByteArray) (ins : Bool) (w : World) (h : Sc w C s a ins) (ha : a < s.size) (hG : Glob w) (hC2 : 4 < C)
    (hlo : ∀ k, k < 27 → NoOp s a k) :
    Calls Tryz.prog 144 #[.pointer (some ⟨C, 0, none⟩)] w (Ends w C s 0 ⟨#[]⟩ 0 4 a ins) := by
  have HS := Lib.hid h
  have hC := h.lt
  have HG := Lib.hid hG
  have HL := Lib.hid hlo
  clear h hG hlo
  have hb0 : (0 : Int) ≤ (a : Int) := by omega
  have hb3 : (a : Int) ≤ (s.size : Int) := by omega
  go_enter Tryz.func144, Tryz.ntmps144
  go_wp2_with (refine wp_load_ops rfl _ rfl rfl (HG.out.keep (only_alloc (only_refl w C) box0) hC2) ?_)
  go_loopw [7] (fun i wr => ∃ k : Nat, k ≤ 27 ∧ i = .int .i64 k ∧ Drawn (w.alloc box0) wr) (fun i _ => 27 - (intOf i).toNat)
  case atStart => exact ⟨0, Nat.zero_le _, rfl, Drawn.refl _⟩
  case round =>
    obtain ⟨k, hk, rfl, hd⟩ := hrel
    have HS1 := Lib.hid ((HS.out.alloc box0).drawn hd)
    have HG1 := Lib.hid (only_drawn (only_refl (w.alloc box0) C) hd)
    by_cases hkj : k < 27
    · obtain ⟨c0, c1, c2, f0, f1, f2, hlt⟩ := HS1.out.cells
      have HD := Lib.hid hd
      clear hd
      have hk27 : (k : Int) < 27 := by omega
      have hix := index_opK k (by omega)
      go_wp2_with fail
      go_quiet ((go_at_call 125; exact quiet_left (prefix_v (HL.out k hkj) _)))
      clear hix
      go_wp2_with fail
      go_roundw
      case rel => exact ⟨k + 1, by omega, by go_num, HD.out.more _⟩
      case measure => simp [intOf]; omega
    · obtain rfl : k = 27 := by omega
      clear hd
      obtain ⟨q, g, l1, l2⟩ := box_behind hC HG1.out
      obtain ⟨⟨x0, c0⟩, ⟨x1, c1⟩, ⟨x2, c2⟩, f0, f1, f2⟩ := box_facts q
      obtain ⟨A, r0, r1, r2⟩ := box_done (.int .i64 0) (.string ⟨#[]⟩) (.int .i64 0) HS1.out g q (Nat.le_refl _) (by omega)
      have HA := Lib.hid A
      clear A g q
      go_wp2
      exact bodyPost_ret (v := .tuple #[tv 0 ⟨#[]⟩ 0, .int .i64 4]) (by simp [results, Tryz.results144, go_sem, r0, r1, r2]) rfl ⟨rfl, HA.out⟩
end Go.Proofs.YticbcnhbpbaocaaGreatDoor

namespace Go.Proofs.YticbcnhbpbaocaaGreatDoor
open Go.RowKit M

theorem sep_of {b : Nat} {ins v : Bool} (h : v = true ↔ ((b : Int) = 32 ∨ (b : Int) = 9 ∨ (b : Int) = 13 ∨ ((b : Int) = 10 ∧ ins = false))) : v = sep ins b := by
  unfold sep
  cases ins
  · rw [Bool.eq_iff_iff, h]; simp; omega
  · rw [Bool.eq_iff_iff, h]; simp; omega
theorem quiet_drew {P : Program} {f : FuncId} {args : Array Value} {w : World} {n : Nat} {v : Value}
    (h : Calls P f args (w.drewN n) fun e w' => e = .returned v ∧ Drawn (w.drewN n) w') : Calls P f args (w.drewN n) fun e w'' => e = .returned v ∧ ∃ m, w'' = w.drewN m :=
  h.mono fun _ _ ⟨he, m, hm⟩ => ⟨he, n + m, hm.trans (World.drewN_drewN _ _ _)⟩

set_option maxRecDepth 100000 in
set_option maxHeartbeats 1000000 in
theorem separates_any (C a b : Nat) (s : ByteArray) (ins : Bool) (w : World) (h : Sc w C s a ins) :
    Calls Tryz.prog 137 #[.pointer (some ⟨C, 0, none⟩), .int .u8 (b : Int)] w fun e w' => e = .returned (.bool (sep ins b)) ∧ Drawn w w' := by
  obtain ⟨c0, c1, c2, f0, f1, f2, hlt⟩ := h.cells
  clear h
  by_cases h1 : b = 32
  · subst h1
    go_enter Tryz.func137, Tryz.ntmps137
    go_wp2
    go_ret
    exact ⟨retb (sep_of (by simp)), Drawn.refl _⟩
  by_cases h2 : b = 9
  · subst h2
    go_enter Tryz.func137, Tryz.ntmps137
    go_wp2
    go_ret
    exact ⟨retb (sep_of (by simp)), Drawn.refl _⟩
  by_cases h3 : b = 13
  · subst h3
    go_enter Tryz.func137, Tryz.ntmps137
    go_wp2
    go_ret
    exact ⟨retb (sep_of (by simp)), Drawn.refl _⟩
  have g1 : ((b : Int) == 32) = false := by simp; omega
  have g2 : ((b : Int) == 9) = false := by simp; omega
  have g3 : ((b : Int) == 13) = false := by simp; omega
  by_cases h4 : b = 10
  · subst h4
    clear g1 g2 g3
    cases ins
    all_goals
      go_enter Tryz.func137, Tryz.ntmps137
      go_wp2
      go_ret
      exact ⟨retb (sep_of (by simp)), by first | exact Drawn.refl _ | exact ⟨1, rfl⟩⟩
  have g4 : ((b : Int) == 10) = false := by simp; omega
  have H1 := Lib.hid h1
  have H2 := Lib.hid h2
  have H3 := Lib.hid h3
  have H4 := Lib.hid h4
  clear h1 h2 h3 h4
  go_enter Tryz.func137, Tryz.ntmps137
  go_wp2
  go_ret
  exact ⟨retb (sep_of (by have := H1.out; have := H2.out; have := H3.out; have := H4.out; simp; omega)), Drawn.refl _⟩

theorem byte_drop2 (s : ByteArray) (a m : Nat) (h1 : a ≤ m) (h : m < s.size) : ((s.data.toList.drop a).getD (m - a) 0).toNat = s[m].toNat := by
  obtain ⟨k, rfl⟩ : ∃ k, m = a + k := ⟨m - a, by omega⟩
  rw [Nat.add_sub_cancel_left]
  exact byte_drop s a k h

set_option maxRecDepth 100000 in
set_option maxHeartbeats 1000000 in
theorem more_any (C a : Nat) (s : ByteArray) (ins : Bool) (w : World) (h : Sc w C s a ins) (hs : s.size ≤ 20000) (ha : a ≤ s.size) :
    Calls Tryz.prog 120 #[.pointer (some ⟨C, 0, none⟩)] w fun e w' => e = .returned (.bool (decide (a + spn (sep ins) (s.data.toList.drop a) < s.size))) ∧ Sc w' C s (a + spn (sep ins) (s.data.toList.drop a)) ins ∧ w.grownBy w' (some C) := by
  have HS := Lib.hid h
  clear h
  go_enter Tryz.func120, Tryz.ntmps120
  go_wp2
  go_loopw [3] (fun i wr => ∃ m : Nat, a ≤ m ∧ m - a ≤ spn (sep ins) (s.data.toList.drop a) ∧ Sc wr C s m ins ∧ w.grownBy wr (some C)) (fun _ wr => s.size - (intOf ((wr.cell? ⟨C, 1, none⟩).getD .nilIface)).toNat)
  case atStart => exact ⟨a, Nat.le_refl _, by omega, HS.out, only_refl _ _⟩
  case round =>
    obtain ⟨m, ham, hk, hsc, hg⟩ := hrel
    obtain ⟨c0, c1, c2, f0, f1, f2, hlt⟩ := hsc.cells
    have HSC := Lib.hid hsc
    have HG := Lib.hid hg
    have HK := Lib.hid hk
    clear hsc hg
    have hl : m ≤ s.size := by have := spn_le (sep ins) (s.data.toList.drop a); simp at this; omega
    clear hk
    by_cases hlt2 : m < s.size
    · have hb1 : (0 : Int) ≤ (m : Int) := by omega
      have hb2 : (m : Int) < (s.size : Int) := by omega
      have hgd : decide ((m : Int) < (s.size : Int)) = true := by simp; omega
      have HB := Lib.hid (byte_drop2 s a m ham hlt2)
      go_wp2_with fail
      go_quiet ((go_at_call 137; exact quiet_drew (separates_any C m _ s ins _ (HSC.out.drewN _))))
      go_wp2
      · have hp : sep ins s[m].toNat = true := by assumption
        have HS2 := Lib.hid ((HSC.out.drewN nq).setAt (m + 1) ((m : Int) + 1) (by omega))
        have HG2 := Lib.hid (only_set (p := ⟨C, 1, none⟩) (only_drewN HG.out nq) (.inl rfl) (.int .i64 ((m : Int) + 1)))
        go_roundw
        case rel => exact ⟨m + 1, by omega, by have := spn_more _ _ _ HK.out (by simp; omega) (by rw [HB.out]; exact hp); omega, HS2.out, HG2.out⟩
        case measure => rw [HS2.out.cells.2.1, c1]; simp [intOf]; omega
      · have hp : sep ins s[m].toNat = false := by assumption
        go_quiet (fail)
        go_wp2
        go_ret
        have e := spn_stop _ _ _ HK.out (fun _ => by rw [HB.out]; exact hp)
        have e2 : a + spn (sep ins) (s.data.toList.drop a) = m := by omega
        rw [e2]
        exact ⟨retb (by simp; omega), (HSC.out.drewN _).drewN _, only_drewN (only_drewN HG.out _) _⟩
    · have hgd : decide ((m : Int) < (s.size : Int)) = false := by simp; omega
      go_wp2_with fail
      go_quiet (fail)
      go_wp2_with fail
      go_quiet (fail)
      go_wp2
      go_ret
      have e := spn_stop _ _ _ HK.out (fun g => by simp at g; omega)
      have e2 : a + spn (sep ins) (s.data.toList.drop a) = m := by omega
      rw [e2]
      exact ⟨retb (by simp; omega), (HSC.out.drewN _).drewN _, only_drewN (only_drewN HG.out _) _⟩
end Go.Proofs.YticbcnhbpbaocaaGreatDoor

namespace Go.Proofs.YticbcnhbpbaocaaGreatDoor
open Go.RowKit M

theorem quiet_add_left {P : Program} {f : FuncId} {args : Array Value} {w : World} {a n : Nat} {v : Value}
    (h : Calls P f args (w.drewN (a + n)) fun e w' => e = .returned v ∧ w.drewN (a + n) = w') :
    Calls P f args (w.drewN (a + n)) fun e w'' => e = .returned v ∧ ∃ m, w'' = w.drewN (a + m) :=
  h.mono fun _ _ ⟨he, hm⟩ => ⟨he, n, hm.symm⟩
theorem ends_box {w w2 : World} {C a1 a' err k : Nat} {s t : ByteArray} {ins : Bool} (hC : C < w.heap.size) (h2 : Sc w2 C s a' ins) (g2 : (w.alloc box0).grownBy w2 (some C)) :
    (∃ x0 x1 x2, w2.cell? ⟨w.heap.size, 0, none⟩ = some x0 ∧ w2.cell? ⟨w.heap.size, 1, none⟩ = some x1 ∧ w2.cell? ⟨w.heap.size, 2, none⟩ = some x2) ∧
    (w2.frozen? ⟨w.heap.size, 0, none⟩ = false ∧ w2.frozen? ⟨w.heap.size, 1, none⟩ = false ∧ w2.frozen? ⟨w.heap.size, 2, none⟩ = false) ∧
    (((((w2.setCell ⟨w.heap.size, 0, none⟩ (.int .i64 (k : Int))).setCell ⟨w.heap.size, 1, none⟩ (.string t)).setCell ⟨w.heap.size, 2, none⟩ (.int .i64 (a1 : Int))).cell? ⟨w.heap.size, 0, none⟩ = some (.int .i64 (k : Int)) ∧
    (((w2.setCell ⟨w.heap.size, 0, none⟩ (.int .i64 (k : Int))).setCell ⟨w.heap.size, 1, none⟩ (.string t)).setCell ⟨w.heap.size, 2, none⟩ (.int .i64 (a1 : Int))).cell? ⟨w.heap.size, 1, none⟩ = some (.string t) ∧
    (((w2.setCell ⟨w.heap.size, 0, none⟩ (.int .i64 (k : Int))).setCell ⟨w.heap.size, 1, none⟩ (.string t)).setCell ⟨w.heap.size, 2, none⟩ (.int .i64 (a1 : Int))).cell? ⟨w.heap.size, 2, none⟩ = some (.int .i64 (a1 : Int))) ∧
    Ends w C s k t a1 err a' ins (.returned (.tuple #[tv k t a1, .int .i64 (err : Int)])) (((w2.setCell ⟨w.heap.size, 0, none⟩ (.int .i64 (k : Int))).setCell ⟨w.heap.size, 1, none⟩ (.string t)).setCell ⟨w.heap.size, 2, none⟩ (.int .i64 (a1 : Int)))) := by
  obtain ⟨q, g, l1, l2⟩ := box_behind hC g2
  obtain ⟨⟨x0, c0⟩, ⟨x1, c1⟩, ⟨x2, c2⟩, f0, f1, f2⟩ := box_facts q
  obtain ⟨A, r0, r1, r2⟩ := box_done (.int .i64 (k : Int)) (.string t) (.int .i64 (a1 : Int)) h2 g q (Nat.le_refl _) (by omega)
  exact ⟨⟨x0, x1, x2, c0, c1, c2⟩, ⟨f0, f1, f2⟩, ⟨r0, r1, r2⟩, rfl, A⟩

set_option maxRecDepth 100000 in
set_option maxHeartbeats 1000000 in
theorem next_name (C a b : Nat) (s : ByteArray) (ins : Bool) (w : World) (h : Sc w C s a ins) (ha : a < s.size) (hG : Glob w) (hC2 : 4 < C) (hb : s[a].toNat = b) (h10 : ((b : Int) == 10) = false) (hL : isL b = true)
    (k a1 err a' : Nat) (t : ByteArray) (ins' : Bool) (hm : ∀ W, Sc W C s a ins → Glob W → Calls Tryz.prog 140 #[.pointer (some ⟨C, 0, none⟩)] W (Ends W C s k t a1 err a' ins')) :
    Calls Tryz.prog 121 #[.pointer (some ⟨C, 0, none⟩)] w (Ends w C s k t a1 err a' ins') := by
  have HS := Lib.hid h
  have HM := Lib.hid hm
  have hC := h.lt
  have HG := Lib.hid hG
  clear hm hG
  have hb0 : (0 : Int) ≤ (a : Int) := by omega
  have hb1 : (a : Int) < (s.size : Int) := by omega
  have hb2 : (a : Int) ≤ (s.size : Int) := by omega
  obtain ⟨c0, c1, c2, f0, f1, f2, hlt⟩ := (h.alloc box0).cells
  clear h
  go_enter Tryz.func121, Tryz.ntmps121
  go_wp2_with fail
  go_quiet (fail)
  go_wp2_with (first | (go_at_call 139; refine (letter_any _ _).mono ?_; rintro e w' ⟨rfl, rfl⟩) | (go_at_call 141; refine (digit_any _ _).mono ?_; rintro e w' ⟨rfl, rfl⟩))
  refine (HM.out _ (Sc.drewN (HS.out.alloc box0) _) (HG.out.keep (only_drewN (only_alloc (only_refl w C) box0) _) hC2)).mono ?_
  rintro e w2 ⟨rfl, h2, g2⟩
  obtain ⟨⟨x0, x1, x2, d0, d1, d2⟩, ⟨e0, e1, e2⟩, ⟨r0, r1, r2⟩, A⟩ := ends_box (err := err) (k := k) (a1 := a1) (t := t) hC h2 (only_trans (only_drewN (only_refl (w.alloc box0) C) _) g2)
  have HA := Lib.hid A
  clear A h2 g2
  go_wp2
  exact bodyPost_ret (v := .tuple #[tv k t a1, .int .i64 (err : Int)]) (by simp [results, Tryz.results121, go_sem, r0, r1, r2]) rfl HA.out

set_option maxRecDepth 100000 in
set_option maxHeartbeats 1000000 in
theorem next_int (C a b : Nat) (s : ByteArray) (ins : Bool) (w : World) (h : Sc w C s a ins) (ha : a < s.size) (hG : Glob w) (hC2 : 4 < C) (hb : s[a].toNat = b) (h10 : ((b : Int) == 10) = false) (hL : isL b = false) (hD : isD b = true)
    (k a1 err a' : Nat) (t : ByteArray) (ins' : Bool) (hm : ∀ W, Sc W C s a ins → Glob W → Calls Tryz.prog 142 #[.pointer (some ⟨C, 0, none⟩)] W (Ends W C s k t a1 err a' ins')) :
    Calls Tryz.prog 121 #[.pointer (some ⟨C, 0, none⟩)] w (Ends w C s k t a1 err a' ins') := by
  have HS := Lib.hid h
  have HM := Lib.hid hm
  have hC := h.lt
  have HG := Lib.hid hG
  clear hm hG
  have hb0 : (0 : Int) ≤ (a : Int) := by omega
  have hb1 : (a : Int) < (s.size : Int) := by omega
  have hb2 : (a : Int) ≤ (s.size : Int) := by omega
  obtain ⟨c0, c1, c2, f0, f1, f2, hlt⟩ := (h.alloc box0).cells
  clear h
  go_enter Tryz.func121, Tryz.ntmps121
  go_wp2_with fail
  go_quiet (fail)
  go_wp2_with (first | (go_at_call 139; refine (letter_any _ _).mono ?_; rintro e w' ⟨rfl, rfl⟩) | (go_at_call 141; refine (digit_any _ _).mono ?_; rintro e w' ⟨rfl, rfl⟩))
  refine (HM.out _ (Sc.drewN (HS.out.alloc box0) _) (HG.out.keep (only_drewN (only_alloc (only_refl w C) box0) _) hC2)).mono ?_
  rintro e w2 ⟨rfl, h2, g2⟩
  obtain ⟨⟨x0, x1, x2, d0, d1, d2⟩, ⟨e0, e1, e2⟩, ⟨r0, r1, r2⟩, A⟩ := ends_box (err := err) (k := k) (a1 := a1) (t := t) hC h2 (only_trans (only_drewN (only_refl (w.alloc box0) C) _) g2)
  have HA := Lib.hid A
  clear A h2 g2
  go_wp2
  exact bodyPost_ret (v := .tuple #[tv k t a1, .int .i64 (err : Int)]) (by simp [results, Tryz.results121, go_sem, r0, r1, r2]) rfl HA.out

set_option maxRecDepth 100000 in
set_option maxHeartbeats 1000000 in
theorem next_op (C a b : Nat) (s : ByteArray) (ins : Bool) (w : World) (h : Sc w C s a ins) (ha : a < s.size) (hG : Glob w) (hC2 : 4 < C) (hb : s[a].toNat = b) (h10 : ((b : Int) == 10) = false) (hL : isL b = false) (hD : isD b = false) (hP : Lib.hasPrefix (s.extract a s.size).data.toList [47, 47] = false)
    (k a1 err a' : Nat) (t : ByteArray) (ins' : Bool) (hm : ∀ W, Sc W C s a ins → Glob W → Calls Tryz.prog 144 #[.pointer (some ⟨C, 0, none⟩)] W (Ends W C s k t a1 err a' ins')) :
    Calls Tryz.prog 121 #[.pointer (some ⟨C, 0, none⟩)] w (Ends w C s k t a1 err a' ins') := by
  have HS := Lib.hid h
  have HM := Lib.hid hm
  have hC := h.lt
  have HG := Lib.hid hG
  clear hm hG
  have hb0 : (0 : Int) ≤ (a : Int) := by omega
  have hb1 : (a : Int) < (s.size : Int) := by omega
  have hb2 : (a : Int) ≤ (s.size : Int) := by omega
  obtain ⟨c0, c1, c2, f0, f1, f2, hlt⟩ := (h.alloc box0).cells
  clear h
  go_enter Tryz.func121, Tryz.ntmps121
  go_wp2_with fail
  go_quiet (fail)
  have HP := Lib.hid hP
  clear hP
  go_wp2_with (first | (go_at_call 139; refine (letter_any _ _).mono ?_; rintro e w' ⟨rfl, rfl⟩) | (go_at_call 141; refine (digit_any _ _).mono ?_; rintro e w' ⟨rfl, rfl⟩))
  go_quiet ((go_at_call 125; exact quiet_add_left (prefix_v (p := ⟨#[47, 47]⟩) HP.out _)))
  go_wp2_with fail
  refine (HM.out _ (Sc.drewN (HS.out.alloc box0) _) (HG.out.keep (only_drewN (only_alloc (only_refl w C) box0) _) hC2)).mono ?_
  rintro e w2 ⟨rfl, h2, g2⟩
  obtain ⟨⟨x0, x1, x2, d0, d1, d2⟩, ⟨e0, e1, e2⟩, ⟨r0, r1, r2⟩, A⟩ := ends_box (err := err) (k := k) (a1 := a1) (t := t) hC h2 (only_trans (only_drewN (only_refl (w.alloc box0) C) _) g2)
  have HA := Lib.hid A
  clear A h2 g2
  go_wp2
  exact bodyPost_ret (v := .tuple #[tv k t a1, .int .i64 (err : Int)]) (by simp [results, Tryz.results121, go_sem, r0, r1, r2]) rfl HA.out

set_option maxRecDepth 100000 in
set_option maxHeartbeats 1000000 in
theorem next_feed (C a b : Nat) (s : ByteArray) (ins : Bool) (w : World) (h : Sc w C s a ins) (ha : a < s.size) (hG : Glob w) (hC2 : 4 < C) (hb : s[a].toNat = b) (h10 : ((b : Int) == 10) = true)
    (k a1 a' : Nat) (t : ByteArray) (ins' : Bool) (hm : ∀ W, Sc W C s a ins → Glob W → Calls Tryz.prog 138 #[.pointer (some ⟨C, 0, none⟩)] W fun e w' => e = .returned (tv k t a1) ∧ Sc w' C s a' ins' ∧ W.grownBy w' (some C)) :
    Calls Tryz.prog 121 #[.pointer (some ⟨C, 0, none⟩)] w (Ends w C s k t a1 0 a' ins') := by
  have HS := Lib.hid h
  have HM := Lib.hid hm
  have hC := h.lt
  have HG := Lib.hid hG
  clear hm hG
  have hb0 : (0 : Int) ≤ (a : Int) := by omega
  have hb1 : (a : Int) < (s.size : Int) := by omega
  have hb2 : (a : Int) ≤ (s.size : Int) := by omega
  obtain ⟨c0, c1, c2, f0, f1, f2, hlt⟩ := (h.alloc box0).cells
  clear h
  go_enter Tryz.func121, Tryz.ntmps121
  go_wp2_with fail
  go_quiet (fail)
  go_wp2_with (first | (go_at_call 139; refine (letter_any _ _).mono ?_; rintro e w' ⟨rfl, rfl⟩) | (go_at_call 141; refine (digit_any _ _).mono ?_; rintro e w' ⟨rfl, rfl⟩))
  refine (HM.out _ (Sc.drewN (HS.out.alloc box0) _) (HG.out.keep (only_drewN (only_alloc (only_refl w C) box0) _) hC2)).mono ?_
  rintro e w2 ⟨rfl, h2, g2⟩
  obtain ⟨⟨x0, x1, x2, d0, d1, d2⟩, ⟨e0, e1, e2⟩, ⟨r0, r1, r2⟩, A⟩ := ends_box (err := 0) (k := k) (a1 := a1) (t := t) hC h2 (only_trans (only_drewN (only_refl (w.alloc box0) C) _) g2)
  have HA := Lib.hid A
  clear A h2 g2
  go_wp2
  exact bodyPost_ret (v := .tuple #[tv k t a1, .int .i64 0]) (by simp [results, Tryz.results121, go_sem, r0, r1, r2]) rfl HA.out

set_option maxRecDepth 100000 in
set_option maxHeartbeats 1000000 in
theorem next_comment (C a b : Nat) (s : ByteArray) (ins : Bool) (w : World) (h : Sc w C s a ins) (ha : a < s.size) (hG : Glob w) (hC2 : 4 < C) (hb : s[a].toNat = b) (h10 : ((b : Int) == 10) = false) (hL : isL b = false) (hD : isD b = false) (hP : Lib.hasPrefix (s.extract a s.size).data.toList [47, 47] = true)
    (k a1 a' : Nat) (t : ByteArray) (ins' : Bool) (hm : ∀ W, Sc W C s a ins → Glob W → Calls Tryz.prog 143 #[.pointer (some ⟨C, 0, none⟩)] W fun e w' => e = .returned (tv k t a1) ∧ Sc w' C s a' ins' ∧ W.grownBy w' (some C)) :
    Calls Tryz.prog 121 #[.pointer (some ⟨C, 0, none⟩)] w (Ends w C s k t a1 0 a' ins') := by
  have HS := Lib.hid h
  have HM := Lib.hid hm
  have hC := h.lt
  have HG := Lib.hid hG
  clear hm hG
  have hb0 : (0 : Int) ≤ (a : Int) := by omega
  have hb1 : (a : Int) < (s.size : Int) := by omega
  have hb2 : (a : Int) ≤ (s.size : Int) := by omega
  obtain ⟨c0, c1, c2, f0, f1, f2, hlt⟩ := (h.alloc box0).cells
  clear h
  go_enter Tryz.func121, Tryz.ntmps121
  go_wp2_with fail
  go_quiet (fail)
  have HP := Lib.hid hP
  clear hP
  go_wp2_with (first | (go_at_call 139; refine (letter_any _ _).mono ?_; rintro e w' ⟨rfl, rfl⟩) | (go_at_call 141; refine (digit_any _ _).mono ?_; rintro e w' ⟨rfl, rfl⟩))
  go_quiet ((go_at_call 125; exact quiet_add_left (prefix_v (p := ⟨#[47, 47]⟩) HP.out _)))
  go_wp2_with fail
  refine (HM.out _ (Sc.drewN (HS.out.alloc box0) _) (HG.out.keep (only_drewN (only_alloc (only_refl w C) box0) _) hC2)).mono ?_
  rintro e w2 ⟨rfl, h2, g2⟩
  obtain ⟨⟨x0, x1, x2, d0, d1, d2⟩, ⟨e0, e1, e2⟩, ⟨r0, r1, r2⟩, A⟩ := ends_box (err := 0) (k := k) (a1 := a1) (t := t) hC h2 (only_trans (only_drewN (only_refl (w.alloc box0) C) _) g2)
  have HA := Lib.hid A
  clear A h2 g2
  go_wp2
  exact bodyPost_ret (v := .tuple #[tv k t a1, .int .i64 0]) (by simp [results, Tryz.results121, go_sem, r0, r1, r2]) rfl HA.out

end Go.Proofs.YticbcnhbpbaocaaGreatDoor

namespace Go.Proofs.YticbcnhbpbaocaaGreatDoor
open Go.RowKit M

theorem ext_list (s : ByteArray) (a n : Nat) : (s.extract a (a + n)).data.toList = (s.data.toList.drop a).take n := by
  rw [Lib.extract_data, Nat.add_sub_cancel_left]
theorem ext_toList (s : ByteArray) (a n : Nat) : (s.extract a (a + n)).toList = (s.data.toList.drop a).take n := by
  rw [ByteArray.toList_eq, ext_list]
theorem drop_at (s : ByteArray) (a : Nat) (h : a < s.size) : s.data.toList.drop a = s[a] :: s.data.toList.drop (a + 1) := by
  have h2 : a < s.data.toList.length := by simpa using h
  rw [List.drop_eq_getElem_cons h2]
  rfl
theorem size_list (s : ByteArray) : s.size = s.data.toList.length := by simp

theorem get0 {s : ByteArray} {c : UInt8} {r : Bs} (h : s.data.toList = c :: r) (h0 : 0 < s.size) : s[0] = c := by
  have : s[0] = s.data.toList[0]'(by rw [← size_list]; exact h0) := by simp; rfl
  rw [this]
  simp [h]

section
variable {C a : Nat} {s : ByteArray} {ins : Bool} {w : World}

theorem int_good (h : Sc w C s a ins) (hs : s.size ≤ 20000) (ha : a < s.size) (hD : isD s[a].toNat = true)
    (hn : numOk ((s.data.toList.drop a).take (spn isD (s.data.toList.drop a))) = true) (hL : hdL ((s.data.toList.drop a).drop (spn isD (s.data.toList.drop a))) = false) :
    Calls Tryz.prog 142 #[.pointer (some ⟨C, 0, none⟩)] w (Ends w C s 2 (s.extract a (a + spn isD (s.data.toList.drop a))) a 0 (a + spn isD (s.data.toList.drop a)) (endB 2 (s.extract a (a + spn isD (s.data.toList.drop a))).toList)) := by
  have hpos : 1 ≤ spn isD (s.data.toList.drop a) := by rw [drop_at s a ha, spn_cons, if_pos hD]; omega
  have hle : spn isD (s.data.toList.drop a) ≤ s.size - a := by have := spn_le isD (s.data.toList.drop a); simp at this; omega
  have hX := ext_list s a (spn isD (s.data.toList.drop a))
  have hXne : (s.data.toList.drop a).take (spn isD (s.data.toList.drop a)) ≠ [] := by
    intro e; have := congrArg List.length e; simp at this; omega
  obtain ⟨c, r, hcr⟩ := List.exists_cons_of_ne_nil hXne
  have hsz : (s.extract a (a + spn isD (s.data.toList.drop a))).size = spn isD (s.data.toList.drop a) := by simp; omega
  have hR : (s.extract (a + spn isD (s.data.toList.drop a)) s.size).data.toList = (s.data.toList.drop a).drop (spn isD (s.data.toList.drop a)) := by
    rw [Lib.extract_to_end, List.drop_drop]
  have hv := (parse_val _ hXne (spn_all isD _)).1 (by unfold numOk at hn; simp at hn; exact hn.1)
  have hlead : lead ((s.data.toList.drop a).take (spn isD (s.data.toList.drop a))) = false := by unfold numOk at hn; simp at hn; exact hn.2
  have hlen : ((s.data.toList.drop a).take (spn isD (s.data.toList.drop a))).length = spn isD (s.data.toList.drop a) := by simp; omega
  rw [← hX] at hv hcr
  have hc := get0 hcr (by omega)
  have h48 : 1 < spn isD (s.data.toList.drop a) → ((c.toNat : Int) == 48) = false := by
    intro g
    unfold lead at hlead
    rw [← hX, hcr, List.head?_cons] at hlead
    have e2 : decide (1 < (c :: r).length) = true := by rw [← hcr, hX, hlen]; simpa using g
    rw [e2] at hlead
    simp at hlead ⊢
    intro e
    apply hlead
    have : c.toNat = 48 := by omega
    exact UInt8.toNat_inj.1 this
  cases hRr : (s.data.toList.drop a).drop (spn isD (s.data.toList.drop a)) with
  | nil =>
    have hr : (s.extract (a + spn isD (s.data.toList.drop a)) s.size).toList = [] := by rw [ByteArray.toList_eq, hR, hRr]
    by_cases g : 1 < spn isD (s.data.toList.drop a)
    · exact int_end2 C a s ins w h hs ha _ hv c.toNat (by omega) (by rw [hc]) g (h48 g) hr
    · exact int_end1 C a s ins w h hs ha _ hv (by omega) hr
  | cons d r2 =>
    have hj : 0 < (s.extract (a + spn isD (s.data.toList.drop a)) s.size).size := by rw [size_list, hR, hRr]; simp
    have hd := get0 (hR.trans hRr) hj
    rw [hRr] at hL
    have hLd : isL d.toNat = false := hL
    by_cases g : 1 < spn isD (s.data.toList.drop a)
    · exact int_ok2 C a s ins w h hs ha _ hv c.toNat (by omega) (by rw [hc]) d.toNat hj (by rw [hd]) g (h48 g) hLd
    · exact int_ok1 C a s ins w h hs ha _ hv d.toNat hj (by rw [hd]) (by omega) hLd

theorem int_bad (h : Sc w C s a ins) (hs : s.size ≤ 20000) (ha : a < s.size) (hG : Glob w) (hC2 : 4 < C) (hD : isD s[a].toNat = true)
    (hn : (numOk ((s.data.toList.drop a).take (spn isD (s.data.toList.drop a))) && !hdL ((s.data.toList.drop a).drop (spn isD (s.data.toList.drop a)))) = false) :
    Calls Tryz.prog 142 #[.pointer (some ⟨C, 0, none⟩)] w (Ends w C s 0 ⟨#[]⟩ 0 4 a ins) := by
  have hpos : 1 ≤ spn isD (s.data.toList.drop a) := by rw [drop_at s a ha, spn_cons, if_pos hD]; omega
  have hle : spn isD (s.data.toList.drop a) ≤ s.size - a := by have := spn_le isD (s.data.toList.drop a); simp at this; omega
  have hX := ext_list s a (spn isD (s.data.toList.drop a))
  have hXne : (s.data.toList.drop a).take (spn isD (s.data.toList.drop a)) ≠ [] := by
    intro e; have := congrArg List.length e; simp at this; omega
  obtain ⟨c, r, hcr⟩ := List.exists_cons_of_ne_nil hXne
  have hsz : (s.extract a (a + spn isD (s.data.toList.drop a))).size = spn isD (s.data.toList.drop a) := by simp; omega
  have hR : (s.extract (a + spn isD (s.data.toList.drop a)) s.size).data.toList = (s.data.toList.drop a).drop (spn isD (s.data.toList.drop a)) := by
    rw [Lib.extract_to_end, List.drop_drop]
  have hlen : ((s.data.toList.drop a).take (spn isD (s.data.toList.drop a))).length = spn isD (s.data.toList.drop a) := by simp; omega
  by_cases hval : val ((s.data.toList.drop a).take (spn isD (s.data.toList.drop a))) < 9223372036854775808
  · have hv := (parse_val _ hXne (spn_all isD _)).1 hval
    rw [← hX] at hv
    have hcr' := hcr
    rw [← hX] at hcr
    have hc := get0 hcr (by omega)
    cases hlead : lead ((s.data.toList.drop a).take (spn isD (s.data.toList.drop a))) with
    | true =>
      unfold lead at hlead
      rw [hlen, hcr', List.head?_cons] at hlead
      simp at hlead
      exact int_lead C a s ins w h hs ha _ hv c.toNat (by omega) (by rw [hc]) hlead.1 (by simp [hlead.2])
    | false =>
      have hnum : numOk ((s.data.toList.drop a).take (spn isD (s.data.toList.drop a))) = true := by unfold numOk; rw [hlead]; simpa using hval
      rw [hnum] at hn
      have hL : hdL ((s.data.toList.drop a).drop (spn isD (s.data.toList.drop a))) = true := by simpa using hn
      cases hRr : (s.data.toList.drop a).drop (spn isD (s.data.toList.drop a)) with
      | nil => rw [hRr] at hL; cases hL
      | cons d r2 =>
        have hj : 0 < (s.extract (a + spn isD (s.data.toList.drop a)) s.size).size := by rw [size_list, hR, hRr]; simp
        have hd := get0 (hR.trans hRr) hj
        rw [hRr] at hL
        have hLd : isL d.toNat = true := hL
        by_cases g : 1 < spn isD (s.data.toList.drop a)
        · refine int_letter2 C a s ins w h hs ha _ hv c.toNat (by omega) (by rw [hc]) d.toNat hj (by rw [hd]) g ?_ hLd
          unfold lead at hlead
          rw [hlen, hcr', List.head?_cons] at hlead
          simp [g] at hlead ⊢
          intro e
          apply hlead
          have : c.toNat = 48 := by omega
          exact UInt8.toNat_inj.1 this
        · exact int_letter1 C a s ins w h hs ha _ hv d.toNat hj (by rw [hd]) (by omega) hLd
  · have hv := (parse_val _ hXne (spn_all isD _)).2 hval
    rw [← hX] at hv
    exact int_range C a s ins w h hs ha hv hG hC2

theorem name_good (h : Sc w C s a ins) (hs : s.size ≤ 20000) (ha : a < s.size) (hn : ¬ 32 < spn isLD (s.data.toList.drop a)) :
    Calls Tryz.prog 140 #[.pointer (some ⟨C, 0, none⟩)] w (Ends w C s (kwKind ((s.data.toList.drop a).take (spn isLD (s.data.toList.drop a)))) (s.extract a (a + spn isLD (s.data.toList.drop a))) a 0 (a + spn isLD (s.data.toList.drop a)) (endB (kwKind ((s.data.toList.drop a).take (spn isLD (s.data.toList.drop a)))) ((s.data.toList.drop a).take (spn isLD (s.data.toList.drop a))))) := by
  have := name_short C a s ins w h hs (by omega) hn
  rw [ext_toList] at this
  exact this

theorem opK_data (k : Nat) : (opK k).data.toList = opArr.getD k [] := by unfold opK; simp
theorem rest_list (s : ByteArray) (a : Nat) : (s.extract a s.size).data.toList = s.data.toList.drop a := Lib.extract_to_end s a

theorem oper_good (h : Sc w C s a ins) (hs : s.size ≤ 20000) (ha : a < s.size) (hG : Glob w) (hC2 : 4 < C) (hn : opOf (s.data.toList.drop a) ≠ 0) :
    Calls Tryz.prog 144 #[.pointer (some ⟨C, 0, none⟩)] w (Ends w C s 4 (s.extract a (a + opOf (s.data.toList.drop a))) a 0 (a + opOf (s.data.toList.drop a)) (endB 4 (s.extract a (a + opOf (s.data.toList.drop a))).toList)) := by
  obtain ⟨j, hj, h1, h2, h3⟩ := op_hit _ hn
  have hle := opOf_le (s.data.toList.drop a)
  refine operator_hit C a j s ins w h hs ha hG hC2 hj (fun k hk => ?_) ?_ _ (by rw [size_list, opK_data, h3]) (by simp at hle; omega)
  · have := h2 k hk
    unfold NoOp Lib.hasPrefix
    rw [opK_data, rest_list]
    exact this
  · unfold Lib.hasPrefix
    rw [opK_data, rest_list]
    exact h1
theorem oper_bad (h : Sc w C s a ins) (ha : a < s.size) (hG : Glob w) (hC2 : 4 < C) (hn : opOf (s.data.toList.drop a) = 0) :
    Calls Tryz.prog 144 #[.pointer (some ⟨C, 0, none⟩)] w (Ends w C s 0 ⟨#[]⟩ 0 4 a ins) := by
  refine operator_none C a s ins w h ha hG hC2 (fun k hk => ?_)
  unfold NoOp Lib.hasPrefix
  rw [opK_data, rest_list]
  exact op_none _ hn k hk

theorem slashes (s : ByteArray) (a : Nat) (v : Bool) (h : decide ((s.data.toList.drop a).take 2 = [47, 47]) = v) : Lib.hasPrefix (s.extract a s.size).data.toList [47, 47] = v := by
  rw [rest_list, ← h, Bool.eq_iff_iff, decide_eq_true_iff]
  exact pre_iff _ _
end
end Go.Proofs.YticbcnhbpbaocaaGreatDoor

namespace Go.Proofs.YticbcnhbpbaocaaGreatDoor
open Go.RowKit M

theorem M.nx_at (c : UInt8) (r r' : Bs) (h : r = c :: r') :
    nx r = if isL c.toNat then (if 32 < spn isLD r then (0, 0, 3) else (if kw (r.take (spn isLD r)) then 3 else 1, spn isLD r, 0))
      else if isD c.toNat then (if numOk (r.take (spn isD r)) && !hdL (r.drop (spn isD r)) then (2, spn isD r, 0) else (0, 0, 4))
      else if r.take 2 = [47, 47] then (5, spn notFeed r, 0)
      else if opOf r = 0 then (0, 0, 4) else (4, opOf r, 0) := by
  subst h; rfl

/-- The state behind a token. -/
def after (k : Nat) (ins : Bool) (t : Bs) : Bool := if k = 5 then ins else endB k t

section
variable {C a : Nat} {s : ByteArray} {ins : Bool} {w : World}

theorem next_ok (h : Sc w C s a ins) (hs : s.size ≤ 20000) (ha : a < s.size) (hG : Glob w) (hC2 : 4 < C) (h10 : s[a].toNat ≠ 10) {k n : Nat} (hx : nx (s.data.toList.drop a) = (k, n, 0)) :
    Calls Tryz.prog 121 #[.pointer (some ⟨C, 0, none⟩)] w (Ends w C s k (s.extract a (a + n)) a 0 (a + n) (after k ins ((s.data.toList.drop a).take n))) := by
  have g10 : ((s[a].toNat : Int) == 10) = false := by simp; omega
  rw [nx_at _ _ _ (drop_at s a ha)] at hx
  by_cases c1 : isL s[a].toNat = true
  · rw [if_pos c1] at hx
    by_cases c2 : 32 < spn isLD (s.data.toList.drop a)
    · rw [if_pos c2] at hx; simp at hx
    · rw [if_neg c2] at hx
      simp only [Prod.mk.injEq, and_true] at hx
      obtain ⟨rfl, rfl⟩ := hx
      have e5 : after (if kw ((s.data.toList.drop a).take (spn isLD (s.data.toList.drop a))) = true then 3 else 1) ins ((s.data.toList.drop a).take (spn isLD (s.data.toList.drop a))) = endB (kwKind ((s.data.toList.drop a).take (spn isLD (s.data.toList.drop a)))) ((s.data.toList.drop a).take (spn isLD (s.data.toList.drop a))) := by
        unfold after kwKind
        rw [if_neg (by split <;> omega)]
      rw [e5]
      exact next_name C a _ s ins w h ha hG hC2 rfl g10 c1 _ a 0 _ _ _ (fun W hW _ => name_good hW hs ha c2)
  · rw [if_neg c1] at hx
    have c1' : isL s[a].toNat = false := by simpa using c1
    by_cases c2 : isD s[a].toNat = true
    · rw [if_pos c2] at hx
      split at hx
      · rename_i c3
        simp only [Prod.mk.injEq, and_true] at hx
        obtain ⟨rfl, rfl⟩ := hx
        simp only [Bool.and_eq_true, Bool.not_eq_true'] at c3
        have e5 : after 2 ins ((s.data.toList.drop a).take (spn isD (s.data.toList.drop a))) = endB 2 (s.extract a (a + spn isD (s.data.toList.drop a))).toList := by rw [ext_toList]; rfl
        rw [e5]
        exact next_int C a _ s ins w h ha hG hC2 rfl g10 c1' c2 2 a 0 _ _ _ (fun W hW _ => int_good hW hs ha c2 c3.1 c3.2)
      · simp at hx
    · rw [if_neg c2] at hx
      have c2' : isD s[a].toNat = false := by simpa using c2
      by_cases c3 : (s.data.toList.drop a).take 2 = [47, 47]
      · rw [if_pos c3] at hx
        simp only [Prod.mk.injEq, and_true] at hx
        obtain ⟨rfl, rfl⟩ := hx
        exact next_comment C a _ s ins w h ha hG hC2 rfl g10 c1' c2' (slashes s a true (by simpa using c3)) 5 a _ _ _ (fun W hW _ => comment_tok C a s ins W hW hs (by omega))
      · rw [if_neg c3] at hx
        by_cases c4 : opOf (s.data.toList.drop a) = 0
        · rw [if_pos c4] at hx; simp at hx
        · rw [if_neg c4] at hx
          simp only [Prod.mk.injEq, and_true] at hx
          obtain ⟨rfl, rfl⟩ := hx
          have e5 : after 4 ins ((s.data.toList.drop a).take (opOf (s.data.toList.drop a))) = endB 4 (s.extract a (a + opOf (s.data.toList.drop a))).toList := by rw [ext_toList]; rfl
          rw [e5]
          exact next_op C a _ s ins w h ha hG hC2 rfl g10 c1' c2' (slashes s a false (by simpa using c3)) 4 a 0 _ _ _ (fun W hW hGW => oper_good hW hs ha hGW hC2 c4)

theorem next_err (h : Sc w C s a ins) (hs : s.size ≤ 20000) (ha : a < s.size) (hG : Glob w) (hC2 : 4 < C) (h10 : s[a].toNat ≠ 10) (hx : (nx (s.data.toList.drop a)).2.2 ≠ 0) :
    Calls Tryz.prog 121 #[.pointer (some ⟨C, 0, none⟩)] w (Ends w C s 0 ⟨#[]⟩ 0 (nx (s.data.toList.drop a)).2.2 a ins) := by
  have g10 : ((s[a].toNat : Int) == 10) = false := by simp; omega
  rw [nx_at _ _ _ (drop_at s a ha)] at hx ⊢
  by_cases c1 : isL s[a].toNat = true
  · rw [if_pos c1] at hx ⊢
    by_cases c2 : 32 < spn isLD (s.data.toList.drop a)
    · rw [if_pos c2]
      exact next_name C a _ s ins w h ha hG hC2 rfl g10 c1 0 0 3 _ _ _ (fun W hW _ => name_long C a s ins W hW hs (by omega) c2)
    · rw [if_neg c2] at hx; simp at hx
  · rw [if_neg c1] at hx ⊢
    have c1' : isL s[a].toNat = false := by simpa using c1
    by_cases c2 : isD s[a].toNat = true
    · rw [if_pos c2] at hx ⊢
      split at hx
      · simp at hx
      · rename_i c3
        rw [if_neg c3]
        exact next_int C a _ s ins w h ha hG hC2 rfl g10 c1' c2 0 0 4 _ _ _ (fun W hW hGW => int_bad hW hs ha hGW hC2 c2 (by simpa using c3))
    · rw [if_neg c2] at hx ⊢
      have c2' : isD s[a].toNat = false := by simpa using c2
      by_cases c3 : (s.data.toList.drop a).take 2 = [47, 47]
      · rw [if_pos c3] at hx; simp at hx
      · rw [if_neg c3] at hx ⊢
        by_cases c4 : opOf (s.data.toList.drop a) = 0
        · rw [if_pos c4]
          exact next_op C a _ s ins w h ha hG hC2 rfl g10 c1' c2' (slashes s a false (by simpa using c3)) 0 0 4 _ _ _ (fun W hW hGW => oper_bad hW ha hGW hC2 c4)
        · rw [if_neg c4] at hx; simp at hx

theorem next_nl (h : Sc w C s a ins) (hs : s.size ≤ 20000) (ha : a < s.size) (hG : Glob w) (hC2 : 4 < C) (h10 : s[a].toNat = 10) :
    Calls Tryz.prog 121 #[.pointer (some ⟨C, 0, none⟩)] w (Ends w C s 4 ⟨#[59]⟩ a 0 (a + 1) false) := by
  refine next_feed C a _ s ins w h ha hG hC2 rfl (by simp [h10]) 4 a _ _ _ (fun W hW _ => semicolon_tok C a s ins W hW hs ha ?_)
  rw [ext_toList, drop_at s a ha]
  have : s[a] = 10 := UInt8.toNat_inj.1 h10
  simp [this]
end
end Go.Proofs.YticbcnhbpbaocaaGreatDoor

namespace Go.Proofs.YticbcnhbpbaocaaGreatDoor
open Go.RowKit M

theorem info33 : (Tryz.prog.info? 65).map (fun i => (i.zero, i.size, i.bytes)) = some (some (.agg #[.int .i64 0, .string ⟨#[]⟩, .int .i64 0]), 3, 32) := by kernel_rfl

/-- A token's cells; those of a list. -/
def cell1 (t : Tok) : List Value := [.int .i64 (t.k : Int), .string ⟨t.t.toArray⟩, .int .i64 (t.a : Int)]
def cells (l : List Tok) : List Value := l.flatMap cell1
theorem cells_snoc (l : List Tok) (t : Tok) : cells (l ++ [t]) = cells l ++ cell1 t := by simp [cells]

theorem ext_mk (s : ByteArray) (a n : Nat) : s.extract a (a + n) = ⟨((s.data.toList.drop a).take n).toArray⟩ :=
  Go.WideShapes.bytes_inj (by rw [ext_list])

/-- What read leaves: the tokens in memory of its own. -/
def Reads (w : World) (l : List Tok) (a err : Nat) (e : Ending) (w' : World) : Prop :=
  ∃ A cap, e = .returned (.tuple #[.slice A l.length cap, .int .i64 (a : Int), .int .i64 (err : Int)]) ∧ w'.ownsRow w.heap.size 65 3 (.slice A l.length cap) l.length (cells l) ∧ Below w.heap.size w w'

set_option maxRecDepth 100000 in
set_option maxHeartbeats 1000000 in
theorem read_long (s : ByteArray) (w : World) (hs : 20000 < s.size) (hm : s.size ≤ maxLen) :
    Calls Tryz.prog 105 #[.string s] w (Reads w [] 0 3) := by
  unfold maxLen at hm
  have h1 : (20000 : Int) < (s.size : Int) := by omega
  have h2 : decide ((20000 : Int) < (s.size : Int)) = true := by simp; omega
  go_enter Tryz.func105, Tryz.ntmps105
  go_wp2
  go_ret3
  exact ⟨none, 0, rfl, World.ownsRow_nil _ _ _ _, Below.refl _ _⟩

/-- What holds at a round's head, C the scanner's block. -/
def RInv (w : World) (C : Nat) (s : ByteArray) (acc : List Tok) (m : Nat) (ins : Bool) (A : Option Addr) (cap : Nat) (wr : World) : Prop :=
  Sc wr C s m ins ∧ m ≤ s.size ∧ acc.length ≤ m ∧ wr.ownsRow (C + 1) 65 3 (.slice A acc.length cap) acc.length (cells acc) ∧ Below C w wr ∧ Glob wr ∧
  (acc ++ (toks (s.data.toList.drop m) m ins).1, (toks (s.data.toList.drop m) m ins).2) = scanAll s.data.toList

theorem own_ne {w : World} {C n : Nat} {v : Value} {xs : List Value} (h : w.ownsRow (C + 1) 65 3 v n xs) : v.ownBlock ≠ some C := by
  intro e
  have := h.lt C e
  omega
theorem own_base {w : World} {C n : Nat} {v : Value} {xs : List Value} (h : w.ownsRow (C + 1) 65 3 v n xs) : w.ownsRow C 65 3 v n xs := by
  obtain ⟨h1, h2⟩ := h
  refine ⟨h1, ?_⟩
  rcases h2 with h2 | ⟨g, c, cur, hv, hb, r⟩
  · exact .inl h2
  · exact .inr ⟨g, c, cur, hv, by omega, r⟩
theorem own_drewN {w : World} {base e size n : Nat} {v : Value} {xs : List Value} (h : w.ownsRow base e size v n xs) (k : Nat) : (w.drewN k).ownsRow base e size v n xs := h
theorem belowdr (B : Nat) (w : World) (n : Nat) : Below B w (w.drewN n) := ⟨rfl, rfl, rfl, Nat.le_refl _, fun _ _ => rfl⟩
theorem RInv.only {w w1 w2 : World} {C : Nat} {s : ByteArray} {acc : List Tok} {m m' cap : Nat} {ins ins' : Bool} {A : Option Addr} (h : RInv w C s acc m ins A cap w1) (hC : 4 < C) (g : w1.grownBy w2 (some C)) (hsc : Sc w2 C s m' ins') (hm : m ≤ m') (hm2 : m' ≤ s.size)
    (ht : (acc ++ (toks (s.data.toList.drop m') m' ins').1, (toks (s.data.toList.drop m') m' ins').2) = scanAll s.data.toList) : RInv w C s acc m' ins' A cap w2 := by
  obtain ⟨h1, h2, h3, h4, h5, h6, h7⟩ := h
  exact ⟨hsc, hm2, by omega, h4.kept g (.inr (own_ne h4)), h5.grown g (by have := h1.lt; omega) (fun k hk => by cases hk; omega), h6.keep g hC, ht⟩

/-- The bytes that more skips. -/
theorem toks_more (s : ByteArray) (m : Nat) (ins : Bool) : toks (s.data.toList.drop m) m ins = toks (s.data.toList.drop (m + spn (sep ins) (s.data.toList.drop m))) (m + spn (sep ins) (s.data.toList.drop m)) ins := by
  rw [toks_skip _ _ _ _ (Nat.le_refl _), List.drop_drop]
theorem sep_stop (s : ByteArray) (m : Nat) (ins : Bool) (h : m + spn (sep ins) (s.data.toList.drop m) < s.size) : sep ins (s[m + spn (sep ins) (s.data.toList.drop m)]).toNat = false := by
  have h1 := spn_step (sep ins) (s.data.toList.drop m) _ (Nat.le_refl _)
  rw [List.drop_drop, drop_at s _ h, spn_cons] at h1
  cases hq : sep ins (s[m + spn (sep ins) (s.data.toList.drop m)]).toNat with
  | false => rfl
  | true => rw [hq, if_pos rfl] at h1; omega

/-- What next does to the invariant: nothing yet to the list. -/
structure Step (s : ByteArray) (m : Nat) (ins : Bool) (k n : Nat) (ins' : Bool) (t : Bs) : Prop where
  pos : 1 ≤ n
  le : m + n ≤ s.size
  eq : toks (s.data.toList.drop m) m ins = (⟨k, t, m⟩ :: (toks (s.data.toList.drop (m + n)) (m + n) ins').1, (toks (s.data.toList.drop (m + n)) (m + n) ins').2)

theorem RInv.push {w w2 w4 : World} {C : Nat} {s : ByteArray} {acc : List Tok} {m n k cap g cap' : Nat} {ins ins' : Bool} {A : Option Addr} {t : Bs} {o1 o2 : Obj} (st : Step s m ins k n ins' t)
    (hinv : (wz : World) → wz = w2 → wz.ownsRow (C + 1) 65 3 (.slice A acc.length cap) acc.length (cells acc) ∧ Sc wz C s (m + n) ins' ∧ Below C w wz ∧ Glob wz) (hC : 4 < C) (hacc : acc.length ≤ m)
    (ht : (acc ++ (toks (s.data.toList.drop m) m ins).1, (toks (s.data.toList.drop m) m ins).2) = scanAll s.data.toList)
    (hown : w4.ownsRow (C + 1) 65 3 (.slice (some ⟨g, 0, none⟩) (acc.length + 1) cap') (acc.length + 1) (cells acc ++ cell1 ⟨k, t, m⟩))
    (hgr : ((w2.alloc o1).alloc o2).grownBy w4 (Value.slice A acc.length cap).ownBlock) : RInv w C s (acc ++ [⟨k, t, m⟩]) (m + n) ins' (some ⟨g, 0, none⟩) cap' w4 := by
  obtain ⟨h1, h2, h3, h4⟩ := hinv _ rfl
  have hl := h2.lt
  have hz : ((w2.alloc o1).alloc o2).heap.size = w2.heap.size + 1 + 1 := by simp
  have hne := own_ne h1
  have hg2 : ∀ q, (Value.slice A acc.length cap).ownBlock = some q → C < q := fun q hq => by have := h1.lt q hq; omega
  refine ⟨((h2.alloc o1).alloc o2).grown hgr (fun e => hne e.symm), st.le, by rw [List.length_append]; have := st.pos; simp; omega, ?_, ((h3.alloc (by omega) o1).alloc (by simp; omega) o2).grown hgr (by omega) (fun q hq => by have := hg2 q hq; omega), ?_, ?_⟩
  · rw [List.length_append, cells_snoc]; exact hown
  · obtain ⟨⟨te, pe, q1⟩, q2, q3⟩ := h4
    have a1 : ∀ b o, b < 5 → w4.cell? ⟨b, o, none⟩ = w2.cell? ⟨b, o, none⟩ := fun b o hb => by
      rw [hgr.cell_far ⟨b, o, none⟩ (by show b < _; omega) (by intro e; have := hg2 b e.symm; omega), World.cell?_alloc_lt _ _ _ (by show b < _; simp; omega), World.cell?_alloc_lt _ _ _ (by show b < _; omega)]
    exact ⟨⟨te, pe, (a1 4 0 (by omega)).trans q1⟩, fun i hi => (a1 0 i (by omega)).trans (q2 i hi), by have := hgr.size; omega⟩
  · rw [← ht, st.eq]; simp

theorem next_case {C a : Nat} {s : ByteArray} {ins : Bool} {w : World} (h : Sc w C s a ins) (hs : s.size ≤ 20000) (ha : a < s.size) (hG : Glob w) (hC2 : 4 < C) (hsep : sep ins s[a].toNat = false) :
    (∃ k n ins' t, Step s a ins k n ins' t ∧ Calls Tryz.prog 121 #[.pointer (some ⟨C, 0, none⟩)] w (Ends w C s k ⟨t.toArray⟩ a 0 (a + n) ins')) ∨
    (∃ err : Nat, err ≠ 0 ∧ toks (s.data.toList.drop a) a ins = ([], a, err) ∧ Calls Tryz.prog 121 #[.pointer (some ⟨C, 0, none⟩)] w (Ends w C s 0 ⟨#[]⟩ 0 err a ins)) := by
  have hr := drop_at s a ha
  by_cases h10 : s[a].toNat = 10
  · refine .inl ⟨4, 1, false, [59], ⟨Nat.le_refl _, by omega, ?_⟩, next_nl h hs ha hG hC2 h10⟩
    rw [hr, toks_feed hsep h10]
  · by_cases he : (nx (s.data.toList.drop a)).2.2 = 0
    · have hb := nx_bd _ he
      obtain ⟨k, n, hx⟩ : ∃ k n, nx (s.data.toList.drop a) = (k, n, 0) := ⟨_, _, by rw [← he]⟩
      rw [hx] at hb
      have hc := next_ok h hs ha hG hC2 h10 hx
      rw [ext_mk] at hc
      refine .inl ⟨k, n, _, _, ⟨hb.1, by have := hb.2; simp at this; omega, ?_⟩, hc⟩
      have hx2 := hx
      rw [hr] at hx2
      have := toks_tok (a := a) hsep h10 hx2
      rw [← hr, List.drop_drop] at this
      exact this
    · refine .inr ⟨_, he, ?_, next_err h hs ha hG hC2 h10 he⟩
      have := toks_err (a := a) hsep h10 (by rw [← hr]; exact he)
      rw [← hr] at this
      exact this

set_option maxRecDepth 100000 in
set_option maxHeartbeats 1000000 in
theorem read_short (s : ByteArray) (w : World) (hs : s.size ≤ 20000) (hG : Glob w) :
    Calls Tryz.prog 105 #[.string s] w (Reads w (scanAll s.data.toList).1 (scanAll s.data.toList).2.1 (scanAll s.data.toList).2.2) := by
  obtain ⟨i0, hi, hz0, hz1, hz2⟩ := info_parts info33
  have h1 : decide ((20000 : Int) < (s.size : Int)) = false := by simp; omega
  have HG := Lib.hid hG
  have hC : 4 < w.heap.size := hG.2.2
  have H0 : Hid (RInv w w.heap.size s [] 0 false none 0 (w.alloc (.cells #[.string s, .int .i64 0, .bool false] 97))) :=
    ⟨heap_alloc_new w _, Nat.zero_le _, Nat.le_refl _, World.ownsRow_nil _ _ _ _, (Below.refl _ _).alloc (Nat.le_refl _) _, hG.keep (World.grownBy_alloc w _ (some w.heap.size)) hC, rfl⟩
  clear hG
  go_enter Tryz.func105, Tryz.ntmps105
  go_wp2
  go_loopw [5] (fun v wr => ∃ acc m ins A cap, v = .slice A acc.length cap ∧ RInv w w.heap.size s acc m ins A cap wr) (fun _ wr => s.size - (intOf ((wr.cell? ⟨w.heap.size, 1, none⟩).getD .nilIface)).toNat)
  case atStart => exact ⟨[], 0, false, none, 0, rfl, H0.out⟩
  case round =>
    obtain ⟨acc, m, ins, A, cap, rfl, hr⟩ := hrel
    have hl := hr.2.1
    have hm0 := hr.1.cells.2.1
    have HR := Lib.hid hr
    clear hr H0
    go_wp2_with fail
    refine (more_any w.heap.size m s ins _ HR.out.1 hs hl).mono ?_
    rintro e w1 ⟨rfl, hsc1, hg1⟩
    have hsp : m + spn (sep ins) (s.data.toList.drop m) ≤ s.size := by have := spn_le (sep ins) (s.data.toList.drop m); simp at this; omega
    have HR1 := Lib.hid (HR.out.only hC hg1 hsc1 (by omega) hsp (by rw [← toks_more]; exact HR.out.2.2.2.2.2.2))
    have HST := sep_stop s m ins
    have hmm : m ≤ m + spn (sep ins) (s.data.toList.drop m) := by omega
    generalize m + spn (sep ins) (s.data.toList.drop m) = m1 at *
    clear hsc1 hg1
    by_cases hlt : m1 < s.size
    · have hd : decide (m1 < s.size) = true := by simpa using hlt
      rcases next_case HR1.out.1 hs hlt HR1.out.2.2.2.2.2.1 hC (HST hlt) with ⟨k, n, ins', t, st, hcall⟩ | ⟨err, herr, htk, hcall⟩
      · have HC := Lib.hid hcall
        have ST := Lib.hid st
        clear hcall st HST
        go_wp2_with fail
        refine HC.out.mono ?_
        rintro e w2 ⟨rfl, h2, g2⟩
        have hl2 := h2.lt
        have hal : acc.length ≤ m1 := HR1.out.2.2.1
        have H2 : Hid (w2.ownsRow (w.heap.size + 1) 65 3 (.slice A acc.length cap) acc.length (cells acc) ∧ Sc w2 w.heap.size s (m1 + n) ins' ∧ Below w.heap.size w w2 ∧ Glob w2) :=
          ⟨HR1.out.2.2.2.1.kept g2 (.inr (own_ne HR1.out.2.2.2.1)), h2, HR1.out.2.2.2.2.1.grown g2 (by have := HR1.out.1.lt; omega) (fun k hk => by cases hk; omega), HR1.out.2.2.2.2.2.1.keep g2 hC⟩
        clear h2 g2
        go_wp2_with (at_builtin; refine wpList_append_lies _ rfl _ _ _ rfl (w.heap.size + 1) 65 i0 _ 3 32 Tryz.underlying35 hi hz0 hz1 hz2 rfl (by omega) (.slice A acc.length cap) acc.length (cells acc) rfl ((H2.out.1.alloc _).alloc _) ⟨w2.heap.size + 1, 0, none⟩ 1 1 (cell1 ⟨k, t, m1⟩) rfl rfl (World.news_of_block (cs := #[.int .i64 (k : Int), .string ⟨t.toArray⟩, .int .i64 (m1 : Int)]) (t := 65) (fr := (0, 0)) (heap_alloc2_new w2 _ _)) (by simp [Value.oneCell', cell1]) (by omega) (by unfold maxLen; omega) (by omega) (by simp; omega) (w2.heap.size + 2) (by simp) ?_; intro g1 cap1 w4 hown1 hgrow1 hat1 hlt1)
        have R := Lib.hid (RInv.push ST.out (fun wz hz => by rw [hz]; exact H2.out) hC hal HR1.out.2.2.2.2.2.2 hown1 hgrow1)
        clear hown1 hgrow1 hat1
        go_roundw
        case rel => exact ⟨acc ++ [⟨k, t, m1⟩], m1 + n, ins', some ⟨g1, 0, none⟩, cap1, by rw [List.length_append]; rfl, R.out⟩
        case measure =>
          rw [R.out.1.cells.2.1, hm0]
          have := ST.out.pos
          have := ST.out.le
          simp [intOf]; omega
      · have HE : ((err : Int) != 0) = true := by simp; omega
        have HC := Lib.hid hcall
        have HT := Lib.hid htk
        clear hcall htk HST herr
        go_wp2_with fail
        refine HC.out.mono ?_
        rintro e w2 ⟨rfl, h2, g2⟩
        obtain ⟨c0, c1, c2, f0, f1, f2, hlt2⟩ := h2.cells
        have H2 := Lib.hid (HR1.out.only hC g2 h2 (Nat.le_refl _) hsp HR1.out.2.2.2.2.2.2)
        clear h2 g2
        go_wp2_with fail
        go_quiet (fail)
        go_wp2
        go_ret3
        have e := HR1.out.2.2.2.2.2.2
        rw [HT.out, List.append_nil] at e
        rw [← e]
        exact ⟨A, cap, rfl, own_drewN (own_base (H2.out.2.2.2.1.alloc _)) nq, (H2.out.2.2.2.2.1.alloc (by omega) _).trans (belowdr _ _ _)⟩
    · have hd : decide (m1 < s.size) = false := by simpa using hlt
      clear HST
      go_wp2
      go_ret3
      obtain rfl : m1 = s.size := by omega
      have e := HR1.out.2.2.2.2.2.2
      rw [List.drop_of_length_le (by simp), toks_nil, List.append_nil] at e
      rw [← e]
      exact ⟨A, cap, rfl, own_base HR1.out.2.2.2.1, HR1.out.2.2.2.2.1⟩
end Go.Proofs.YticbcnhbpbaocaaGreatDoor

namespace Go.Proofs.YticbcnhbpbaocaaGreatDoor
open Go.RowKit M

theorem cells_length (l : List Tok) : (cells l).length = l.length * 3 := by
  induction l with
  | nil => rfl
  | cons t l ih => simp [cells, cell1] at *; omega
theorem cells_get (l : List Tok) (i : Nat) (h : i < l.length) :
    (cells l)[i * 3]? = some (.int .i64 (l[i].k : Int)) ∧ (cells l)[i * 3 + 1]? = some (.string ⟨l[i].t.toArray⟩) ∧ (cells l)[i * 3 + 2]? = some (.int .i64 (l[i].a : Int)) := by
  induction l generalizing i with
  | nil => simp at h
  | cons t l ih =>
    have e : cells (t :: l) = .int .i64 (t.k : Int) :: .string ⟨t.t.toArray⟩ :: .int .i64 (t.a : Int) :: cells l := by simp [cells, cell1]
    rw [e]
    cases i with
    | zero => simp
    | succ i =>
      have := ih i (by simpa using h)
      have e2 : (i + 1) * 3 = i * 3 + 3 := by omega
      rw [e2]
      simpa using this

/-- In w, block g holds the tokens l from its head on. -/
def Lies (w : World) (g : Nat) (l : List Tok) : Prop :=
  ∀ i (h : i < l.length), w.cell? ⟨g, i * 3, none⟩ = some (.int .i64 (l[i].k : Int)) ∧ w.cell? ⟨g, i * 3 + 1, none⟩ = some (.string ⟨l[i].t.toArray⟩) ∧ w.cell? ⟨g, i * 3 + 2, none⟩ = some (.int .i64 (l[i].a : Int))
theorem lies_of {w : World} {base g n cap : Nat} {l : List Tok} (h : w.ownsRow base 65 3 (.slice (some ⟨g, 0, none⟩) n cap) n (cells l)) : Lies w g l := by
  intro i hi
  have hc := h.cells (g := g) rfl
  have hadd : ∀ j, (⟨g, 0, none⟩ : Addr).add j = ⟨g, j, none⟩ := fun j => by unfold Addr.add; split <;> simp_all
  obtain ⟨h1, h2, h3⟩ := cells_get l i hi
  exact ⟨by rw [← hadd]; exact hc _ _ h1, by rw [← hadd]; exact hc _ _ h2, by rw [← hadd]; exact hc _ _ h3⟩
theorem Lies.below {w w' : World} {B g : Nat} {l : List Tok} (h : Lies w g l) (hb : Below B w w') (hg : g < B) : Lies w' g l := fun i hi =>
  ⟨(hb.cell (p := ⟨g, i * 3, none⟩) hg).trans (h i hi).1, (hb.cell (p := ⟨g, i * 3 + 1, none⟩) hg).trans (h i hi).2.1, (hb.cell (p := ⟨g, i * 3 + 2, none⟩) hg).trans (h i hi).2.2⟩

/-- A function value that tells tokens apart by their kind. -/
def Pred (F : Nat) (p : Nat → Bool) : Prop := ∀ (k : Nat) (t : ByteArray) (a : Nat) (w : World), Calls Tryz.prog F #[tv k t a] w fun e w' => e = .returned (.bool (p k)) ∧ Below w.heap.size w w'
theorem pred24 : Pred 107 (· == 5) := comment_any
set_option maxRecDepth 100000 in
set_option maxHeartbeats 1000000 in
theorem index_none_24 (p : Nat → Bool) (hp : Pred 107 p) (g cap : Nat) (l : List Tok) (w : World) (hl : l.length ≤ 20000) (hg : g < w.heap.size) (h : Lies w g l) (hno : ∀ i (h : i < l.length), p l[i].k = false) :
    Calls Tryz.prog 122 #[.slice (some ⟨g, 0, none⟩) l.length cap, .func (.func 107) #[] #[]] w fun e w' => e = .returned (.int .i64 (-1)) ∧ Below w.heap.size w w' := by
  have H := Lib.hid h
  have HN := Lib.hid hno
  have HP := Lib.hid hp
  clear h hno hp
  go_enter Tryz.func122, Tryz.ntmps122
  go_wp2
  go_loopw [8] (fun i wr => ∃ k : Nat, k ≤ l.length ∧ i = .int .i64 k ∧ Below w.heap.size w wr) (fun i _ => l.length - (intOf i).toNat)
  case atStart => exact ⟨0, Nat.zero_le _, rfl, Below.refl _ _⟩
  case round =>
    obtain ⟨k, hk, rfl, hb⟩ := hrel
    by_cases hkl : k < l.length
    · obtain ⟨c0, c1, c2⟩ := (H.out.below hb hg) k hkl
      have hn := HN.out k hkl
      generalize l[k] = t at *
      have hk1 : (k : Int) < (l.length : Int) := by omega
      have HB := Lib.hid hb
      have hn2 := Lib.hid hn
      clear hb hn
      go_wp2_with fail
      refine (HP.out _ _ _ _).mono ?_
      rintro e w2 ⟨rfl, hb2⟩
      rw [hn2.out]
      go_wp2_with fail
      go_roundw
      case rel => exact ⟨k + 1, by omega, by go_num, HB.out.trans (hb2.mono HB.out.size)⟩
      case measure => simp [intOf]; omega
    · obtain rfl : k = l.length := by omega
      have hd : decide ((l.length : Int) < (l.length : Int)) = false := by simp
      go_wp2
      go_ret
      exact ⟨rfl, hb⟩

set_option maxRecDepth 100000 in
set_option maxHeartbeats 1000000 in
theorem index_some_24 (p : Nat → Bool) (hp : Pred 107 p) (g cap j : Nat) (l : List Tok) (w : World) (hl : l.length ≤ 20000) (hg : g < w.heap.size) (h : Lies w g l) (hj : j < l.length) (hno : ∀ i (h : i < l.length), i < j → p l[i].k = false) (hyes : p l[j].k = true) :
    Calls Tryz.prog 122 #[.slice (some ⟨g, 0, none⟩) l.length cap, .func (.func 107) #[] #[]] w fun e w' => e = .returned (.int .i64 (j : Int)) ∧ Below w.heap.size w w' := by
  have H := Lib.hid h
  have HN := Lib.hid hno
  have HP := Lib.hid hp
  have HY := Lib.hid hyes
  clear h hno hp hyes
  go_enter Tryz.func122, Tryz.ntmps122
  go_wp2
  go_loopw [8] (fun i wr => ∃ k : Nat, k ≤ j ∧ i = .int .i64 k ∧ Below w.heap.size w wr) (fun i _ => l.length - (intOf i).toNat)
  case atStart => exact ⟨0, Nat.zero_le _, rfl, Below.refl _ _⟩
  case round =>
    obtain ⟨k, hk, rfl, hb⟩ := hrel
    have hkl : k < l.length := by omega
    have hk1 : (k : Int) < (l.length : Int) := by omega
    have HB := Lib.hid hb
    obtain ⟨c0, c1, c2⟩ := (H.out.below hb hg) k hkl
    clear hb
    by_cases hkj : k < j
    · have hn2 := Lib.hid (HN.out k hkl hkj)
      generalize l[k] = t at *
      go_wp2_with fail
      refine (HP.out _ _ _ _).mono ?_
      rintro e w2 ⟨rfl, hb2⟩
      rw [hn2.out]
      go_wp2_with fail
      go_roundw
      case rel => exact ⟨k + 1, by omega, by go_num, HB.out.trans (hb2.mono HB.out.size)⟩
      case measure => simp [intOf]; omega
    · obtain rfl : k = j := by omega
      generalize l[k] = t at *
      go_wp2_with fail
      refine (HP.out _ _ _ _).mono ?_
      rintro e w2 ⟨rfl, hb2⟩
      rw [HY.out]
      go_wp2
      go_ret
      exact ⟨rfl, HB.out.trans (hb2.mono HB.out.size)⟩
end Go.Proofs.YticbcnhbpbaocaaGreatDoor

namespace Go.Proofs.YticbcnhbpbaocaaGreatDoor
open Go.RowKit M

theorem cells_cons (t : Tok) (l : List Tok) : cells (t :: l) = .int .i64 (t.k : Int) :: .string ⟨t.t.toArray⟩ :: .int .i64 (t.a : Int) :: cells l := by simp [cells, cell1]
theorem cells_set (l : List Tok) (i : Nat) (t : Tok) (h : i < l.length) :
    cells (l.set i t) = (((cells l).set (i * 3) (.int .i64 (t.k : Int))).set (i * 3 + 1) (.string ⟨t.t.toArray⟩)).set (i * 3 + 2) (.int .i64 (t.a : Int)) := by
  induction l generalizing i with
  | nil => simp at h
  | cons x l ih =>
    cases i with
    | zero => simp [cells_cons]
    | succ i =>
      have := ih i (by simpa using h)
      have e2 : (i + 1) * 3 = i * 3 + 3 := by omega
      rw [List.set_cons_succ, cells_cons, cells_cons, this, e2]
      simp
theorem cells_take (l : List Tok) (i : Nat) : cells (l.take i) = (cells l).take (i * 3) := by
  induction l generalizing i with
  | nil => simp [cells]
  | cons x l ih =>
    cases i with
    | zero => simp [cells]
    | succ i =>
      have e2 : (i + 1) * 3 = i * 3 + 3 := by omega
      rw [List.take_succ_cons, cells_cons, cells_cons, ih, e2]
      simp

/-- Block g is a row of tokens that begins with L. -/
def Own3 (w : World) (g cap n : Nat) (L : List Tok) : Prop :=
  ∃ cur, w.heap[g]? = some (.cells cur 65 (0, 0)) ∧ cur.size = cap * 3 ∧ cur.toList.take (n * 3) = cells L ∧ L.length = n ∧ n ≤ cap ∧ cap ≤ maxLen
theorem own3_of {w : World} {base g n cap : Nat} {l : List Tok} (h : w.ownsRow base 65 3 (.slice (some ⟨g, 0, none⟩) n cap) n (cells l)) : Own3 w g cap n l ∧ base ≤ g := by
  obtain ⟨h1, ⟨h2, _⟩ | ⟨g', cap', cur, hv, hb, hg, hn, hm, hs, ht⟩⟩ := h
  · cases h2
  · injection hv with e1 e2 e3
    injection e1 with e1
    injection e1 with e1
    subst e1 e3
    exact ⟨⟨cur, hg, hs, ht, by rw [cells_length] at h1; omega, hn, hm⟩, hb⟩
theorem Own3.own {w : World} {base g n cap : Nat} {l : List Tok} (h : Own3 w g cap n l) (hb : base ≤ g) : w.ownsRow base 65 3 (.slice (some ⟨g, 0, none⟩) n cap) n (cells l) := by
  obtain ⟨cur, h1, h2, h3, h4, h5, h6⟩ := h
  exact ⟨by rw [cells_length, h4], .inr ⟨g, cap, cur, rfl, hb, h1, h5, h6, h2, h3⟩⟩
theorem Own3.lies {w : World} {g n cap : Nat} {l : List Tok} (h : Own3 w g cap n l) : Lies w g l := lies_of (h.own (Nat.zero_le _))
theorem Own3.lt {w : World} {g n cap : Nat} {l : List Tok} (h : Own3 w g cap n l) : g < w.heap.size := by
  obtain ⟨cur, h1, _⟩ := h
  exact (Array.getElem?_eq_some_iff.1 h1).1
theorem Own3.block {w w' : World} {g n cap : Nat} {l : List Tok} (h : Own3 w g cap n l) (hb : w'.heap[g]? = w.heap[g]?) : Own3 w' g cap n l := by
  obtain ⟨cur, h1, h2⟩ := h
  exact ⟨cur, hb.trans h1, h2⟩
theorem Own3.free {w : World} {g n cap : Nat} {l : List Tok} (h : Own3 w g cap n l) (i : Nat) : w.frozen? ⟨g, i, none⟩ = false := by
  obtain ⟨cur, h1, _⟩ := h
  simp [World.frozen?, h1]
theorem Own3.set_ {w : World} {g n cap i : Nat} {l : List Tok} (h : Own3 w g cap n l) (hi : i < n) (t : Tok) :
    Own3 (((w.setCell ⟨g, i * 3, none⟩ (.int .i64 (t.k : Int))).setCell ⟨g, i * 3 + 1, none⟩ (.string ⟨t.t.toArray⟩)).setCell ⟨g, i * 3 + 2, none⟩ (.int .i64 (t.a : Int))) g cap n (l.set i t) := by
  obtain ⟨cur, h1, h2, h3, h4, h5, h6⟩ := h
  refine ⟨((cur.setIfInBounds (i * 3) (.int .i64 (t.k : Int))).setIfInBounds (i * 3 + 1) (.string ⟨t.t.toArray⟩)).setIfInBounds (i * 3 + 2) (.int .i64 (t.a : Int)), ?_, by simpa using h2, ?_, by simpa using h4, h5, h6⟩
  · simp [World.setCell, Array.getElem?_modify, h1]
  · rw [cells_set l i t (by omega), ← h3]
    simp [List.take_set]
theorem Own3.cut {w : World} {g n cap i : Nat} {l : List Tok} (h : Own3 w g cap n l) (hi : i ≤ n) : Own3 w g cap i (l.take i) := by
  obtain ⟨cur, h1, h2, h3, h4, h5, h6⟩ := h
  refine ⟨cur, h1, h2, ?_, by simp; omega, by omega, h6⟩
  rw [cells_take, ← h3, List.take_take]
  congr 1; omega

theorem zero33 (w : World) : (zeroValue 65).run Tryz.prog w = .ok (.agg #[.int .i64 0, .string ⟨#[]⟩, .int .i64 0]) w := by kernel_rfl

/-- clear behind place i. -/
theorem run_clear3 (w : World) (ty : TypeId) (g n cap i c : Nat) (l : List Tok) (h : Own3 w g cap n l) (hi : i < n) :
    ∃ w', (Builtin.clear_ #[35] ty #[.slice (some ⟨g, i * 3, none⟩) (n - i) c]).run Tryz.prog w = .ok (.tuple #[]) w' ∧ Own3 w' g cap i (l.take i) ∧ w.grownBy w' (some g) := by
  obtain ⟨cur, h1, h2, h3, h4, h5, h6⟩ := h
  let zs : List Value := (Builtin.zeroCells (Value.agg #[.int .i64 0, .string ⟨#[]⟩, .int .i64 0]).cells (n - i)).toList
  have hzl : zs.length = (n - i) * 3 := by
    show (Builtin.zeroCells _ _).toList.length = _
    rw [Array.length_toList, size_zeroCells]; rfl
  have hz1 : ∀ v ∈ zs, v.oneCell' = true := by
    intro v hv
    have : v ∈ (Builtin.zeroCells (Value.agg #[.int .i64 0, .string ⟨#[]⟩, .int .i64 0]).cells (n - i)) := by simpa [zs] using hv
    simp [Builtin.zeroCells] at this
    obtain ⟨j, hj, rfl⟩ := this
    have h3 : j % 3 = 0 ∨ j % 3 = 1 ∨ j % 3 = 2 := by omega
    simp only [Value.cells]
    rcases h3 with h3 | h3 | h3 <;> simp [h3, Value.oneCell']
  have hst := run_storeCells_at Tryz.prog g (i * 3) 65 zs 0 cur w h1 (by rw [hzl]; have := Nat.mul_le_mul_right 3 h5; omega) hz1
  simp only [Nat.add_zero] at hst
  have hrun : (Builtin.clear_ #[35] ty #[.slice (some ⟨g, i * 3, none⟩) (n - i) c]).run Tryz.prog w = .ok (.tuple #[]) (w.setRow g (cur.toList.take (i * 3) ++ zs ++ cur.toList.drop (i * 3 + zs.length)).toArray) := by
    obtain ⟨m, hm⟩ : ∃ m, n - i = m + 1 := ⟨n - i - 1, by omega⟩
    rw [hm]
    rw [show zs = (Builtin.zeroCells (Value.agg #[.int .i64 0, .string ⟨#[]⟩, .int .i64 0]).cells (m + 1)).toList from by rw [← hm]] at hst ⊢
    simp [Builtin.clear_, run_underlying Tryz.underlying35, hst]
  refine ⟨_, hrun, ⟨_, setRow_heap w g cur _ 65 (0, 0) h1, ?_, ?_, by simp; omega, by omega, h6⟩, ?_⟩
  · simp [hzl]
    have := Nat.mul_le_mul_right 3 h5
    omega
  · rw [cells_take, ← h3, List.take_take]
    have e : min (i * 3) (n * 3) = i * 3 := by omega
    rw [e]
    simp only [List.append_assoc]
    rw [List.take_append_of_le_length (by simp; have := Nat.mul_le_mul_right 3 h5; omega), List.take_take, Nat.min_self]
  · exact ⟨rfl, rfl, rfl, by simp, fun k hk hne => by
      simp only [World.setRow]
      rw [Array.getElem?_modify, if_neg (by intro e; exact hne (by rw [e]))]⟩

theorem filt_snoc (q : Tok → Bool) (l : List Tok) (j : Nat) (h : j < l.length) : (l.take (j + 1)).filter q = (l.take j).filter q ++ (if q l[j] then [l[j]] else []) := by
  rw [List.take_succ_eq_append_getElem h, List.filter_append]
  congr 1
  simp [List.filter_cons]

/-- What a call of DeleteFunc leaves. -/
def Cut (w : World) (g : Nat) (l : List Tok) (e : Ending) (w' : World) : Prop :=
  ∃ cap, e = .returned (.slice (some ⟨g, 0, none⟩) l.length cap) ∧ Own3 w' g cap l.length l ∧ w.grownBy w' (some g)

theorem getD_take {L l : List Tok} {j : Nat} (hd : L.drop j = l.drop j) (h1 : j < L.length) (h2 : j < l.length) : L[j] = l[j] := by
  have e1 := List.drop_eq_getElem_cons h1
  have e2 := List.drop_eq_getElem_cons h2
  rw [e1, e2] at hd
  exact (List.cons.inj hd).1

set_option maxRecDepth 100000 in
set_option maxHeartbeats 1000000 in
theorem delete_none_24 (p : Nat → Bool) (hp : Pred 107 p) (g cap : Nat) (l : List Tok) (w : World) (hl : l.length ≤ 20000) (h : Own3 w g cap l.length l) (hno : ∀ i (h : i < l.length), p l[i].k = false) :
    Calls Tryz.prog 106 #[.slice (some ⟨g, 0, none⟩) l.length cap, .func (.func 107) #[] #[]] w (Cut w g l) := by
  have H := Lib.hid h
  have HN := Lib.hid hno
  clear hno h
  go_enter Tryz.func106, Tryz.ntmps106
  go_wp2_with fail
  refine (index_none_24 p hp g cap l _ hl H.out.lt H.out.lies HN.out).mono ?_
  rintro e w2 ⟨rfl, hb2⟩
  go_wp2
  go_ret
  exact ⟨cap, rfl, H.out.block (hb2.block g H.out.lt), ⟨hb2.os, hb2.tape, hb2.output, hb2.size, fun k hk _ => hb2.block k hk⟩⟩

set_option maxRecDepth 100000 in
set_option maxHeartbeats 2000000 in
theorem delete_some_24 (p : Nat → Bool) (hp : Pred 107 p) (g cap i0 : Nat) (l : List Tok) (w : World) (hl : l.length ≤ 20000) (h : Own3 w g cap l.length l) (hi0 : i0 < l.length) (hno : ∀ i (h : i < l.length), i < i0 → p l[i].k = false) (hyes : p l[i0].k = true) :
    Calls Tryz.prog 106 #[.slice (some ⟨g, 0, none⟩) l.length cap, .func (.func 107) #[] #[]] w (Cut w g (l.filter fun t => !p t.k)) := by
  have H := Lib.hid h
  have HP := Lib.hid hp
  have HN := Lib.hid hno
  have HY := Lib.hid hyes
  have hcap : l.length ≤ cap := by obtain ⟨_, _, _, _, _, hc, _⟩ := h; exact hc
  clear hno h hyes hp
  have hm1 : ((i0 : Int) == -1) = false := by simp
  have H0 : Hid ((l.take (i0 + 1)).filter (fun t => !p t.k) = l.take i0) := by
    show (l.take (i0 + 1)).filter (fun t => !p t.k) = l.take i0
    rw [filt_snoc _ l i0 hi0, HY.out]
    simp
    intro a ha
    obtain ⟨j, hj, rfl⟩ := List.mem_iff_getElem.1 ha
    simp at hj
    rw [List.getElem_take]
    exact HN.out j (by omega) (by omega)
  go_enter Tryz.func106, Tryz.ntmps106
  go_wp2_with fail
  refine (index_some_24 p HP.out g cap i0 l _ hl H.out.lt H.out.lies hi0 HN.out HY.out).mono ?_
  rintro e w2 ⟨rfl, hb2⟩
  have G0 : Hid (w.grownBy w2 (some g)) := ⟨hb2.os, hb2.tape, hb2.output, hb2.size, fun k hk _ => hb2.block k hk⟩
  have O0 := Lib.hid (H.out.block (hb2.block g H.out.lt))
  clear hb2
  go_wp2_with fail
  go_loopw [5, 6] (fun a b wr => ∃ (i j : Nat) (L : List Tok), i < j ∧ j ≤ l.length ∧ a = .int .i64 i ∧ b = .int .i64 j ∧ Own3 wr g cap l.length L ∧ L.take i = (l.take j).filter (fun t => !p t.k) ∧ L.drop j = l.drop j ∧ w.grownBy wr (some g)) (fun _ b _ => l.length - (intOf b).toNat)
  case atStart => exact ⟨i0, i0 + 1, l, by omega, by omega, rfl, by go_num, O0.out, H0.out.symm, rfl, G0.out⟩
  case round =>
    obtain ⟨i, j, L, hij, hj, rfl, rfl, ho, ht, hd, hg⟩ := hrel
    have HO := Lib.hid ho
    have HT := Lib.hid ht
    have HD := Lib.hid hd
    have HG := Lib.hid hg
    have hLl : L.length = l.length := by obtain ⟨_, _, _, _, hc, _⟩ := ho; exact hc
    have hglt := ho.lt
    clear ho ht hd hg O0 G0
    by_cases hjl : j < l.length
    · have hjL : j < L.length := by omega
      have hiL : i < L.length := by omega
      have hj1 : (j : Int) < (l.length : Int) := by omega
      have hi1 : (i : Int) < (l.length : Int) := by omega
      obtain ⟨c0, c1, c2⟩ := HO.out.lies j hjL
      have HE := Lib.hid (getD_take HD.out hjL hjl)
      generalize hlt : L[j] = t at *
      cases hq : p t.k
      · go_wp2_with fail
        refine (HP.out _ _ _ _).mono ?_
        rintro e w3 ⟨rfl, hb3⟩
        rw [hq]
        have hsz := hb3.size
        have O3 := Lib.hid ((HO.out.block (w' := wr.alloc (.cells #[.int .i64 (t.k : Int), .string ⟨t.t.toArray⟩, .int .i64 (t.a : Int)] 65)) (Below.heap_alloc _ _ _ hglt)).block (hb3.block g (by simp; omega)))
        have B3 := Lib.hid (show w3.heap[wr.heap.size]? = _ from (hb3.block _ (by simp)).trans (heap_alloc_new wr _))
        have G3 : Hid (w.grownBy w3 (some g)) := only_below (only_alloc HG.out _) hb3 (by have := HG.out.size; simp; omega)
        obtain ⟨d0, d1, d2⟩ := cell3 B3.out
        obtain ⟨k0, k1, k2⟩ := O3.out.lies i hiL
        have f0 := O3.out.free (i * 3)
        have f1 := O3.out.free (i * 3 + 1)
        have f2 := O3.out.free (i * 3 + 2)
        have hq2 := Lib.hid hq
        have hlt2 := Lib.hid hlt
        clear hb3 c0 c1 c2 hq hlt
        go_wp2_with fail
        have O4 := Lib.hid (O3.out.set_ (i := i) (by omega) t)
        have G4 := Lib.hid (only_set (p := ⟨g, i * 3 + 2, none⟩) (only_set (p := ⟨g, i * 3 + 1, none⟩) (only_set (p := ⟨g, i * 3, none⟩) G3.out (.inl rfl) (.int .i64 (t.k : Int))) (.inl rfl) (.string ⟨t.t.toArray⟩)) (.inl rfl) (.int .i64 (t.a : Int)))
        go_roundw
        case rel =>
          refine ⟨i + 1, j + 1, L.set i t, by omega, by omega, by go_num, by go_num, O4.out, ?_, ?_, G4.out⟩
          · rw [filt_snoc _ l j hjl, ← HE.out, hq2.out, ← HT.out]
            simp
            rw [List.take_succ_eq_append_getElem (by simp; omega), List.take_set_of_le (by omega)]
            simp
          · rw [List.drop_set, if_pos (by omega)]
            have := congrArg (List.drop 1) HD.out
            rw [List.drop_drop, List.drop_drop] at this
            exact this
        case measure => simp [intOf]; omega
      · go_wp2_with fail
        refine (HP.out _ _ _ _).mono ?_
        rintro e w3 ⟨rfl, hb3⟩
        rw [hq]
        have O3 := Lib.hid ((HO.out.block (w' := wr.alloc (.cells #[.int .i64 (t.k : Int), .string ⟨t.t.toArray⟩, .int .i64 (t.a : Int)] 65)) (Below.heap_alloc _ _ _ hglt)).block (hb3.block g (by simp; omega)))
        have G3 : Hid (w.grownBy w3 (some g)) := only_below (only_alloc HG.out _) hb3 (by have := HG.out.size; simp; omega)
        have hq2 := Lib.hid hq
        have hlt2 := Lib.hid hlt
        clear hb3 c0 c1 c2 hq hlt
        go_wp2_with fail
        go_roundw
        case rel =>
          refine ⟨i, j + 1, L, by omega, by omega, rfl, by go_num, O3.out, ?_, ?_, G3.out⟩
          · rw [filt_snoc _ l j hjl, ← HE.out, hq2.out, ← HT.out]
            simp
          · have := congrArg (List.drop 1) HD.out
            rw [List.drop_drop, List.drop_drop] at this
            exact this
        case measure => simp [intOf]; omega
    · obtain rfl : j = l.length := by omega
      have hd : decide ((l.length : Int) < (l.length : Int)) = false := by simp
      have hi1 : (0 : Int) ≤ (i : Int) := by omega
      have hi2 : (i : Int) ≤ (l.length : Int) := by omega
      have hi3 : (i : Int) ≤ (cap : Int) := by omega
      have hne : cap ≠ i := by omega
      have hne2 : ¬ cap - i = 0 := by omega
      obtain ⟨w5, hrun, O5, G5⟩ := run_clear3 wr 0 g l.length cap i (cap - i) L HO.out (by omega)
      have HO5 := Lib.hid O5
      have HG5 := Lib.hid G5
      clear O5 G5
      go_wp2
      go_ret
      have hf : L.take i = l.filter (fun t => !p t.k) := by rw [HT.out, List.take_length]
      have hlen : (l.filter (fun t => !p t.k)).length = i := by rw [← hf]; simp; omega
      have hO6 : Own3 w5 g cap (l.filter (fun t => !p t.k)).length (l.filter (fun t => !p t.k)) := by rw [hlen, ← hf]; exact HO5.out
      exact ⟨cap, congrArg (fun n => Ending.returned (.slice (some ⟨g, 0, none⟩) n cap)) hlen.symm, hO6, only_trans HG.out HG5.out⟩

set_option maxRecDepth 100000 in
theorem index_nil (A : Option Addr) (cap : Nat) (F : Value) (w : World) : Calls Tryz.prog 122 #[.slice A 0 cap, F] w fun e w' => e = .returned (.int .i64 (-1)) ∧ w = w' := by
  go_enter Tryz.func122, Tryz.ntmps122
  go_wp2
  go_loopw [8] (fun i wr => i = .int .i64 0 ∧ w = wr) (fun _ _ => 0)
  case atStart => exact ⟨rfl, rfl⟩
  case round =>
    obtain ⟨rfl, rfl⟩ := hrel
    go_wp2
    go_ret
    exact ⟨rfl, rfl⟩
set_option maxRecDepth 100000 in
theorem delete_nil (A : Option Addr) (cap : Nat) (F : Value) (w : World) : Calls Tryz.prog 106 #[.slice A 0 cap, F] w fun e w' => e = .returned (.slice A 0 cap) ∧ w = w' := by
  go_enter Tryz.func106, Tryz.ntmps106
  go_wp2_with fail
  refine (index_nil A cap F w).mono ?_
  rintro e w2 ⟨rfl, rfl⟩
  go_wp2
  go_ret
  exact ⟨rfl, rfl⟩

/-- DeleteFunc, at a row of the call's own. -/
def Kept (w : World) (base : Nat) (l : List Tok) (e : Ending) (w' : World) : Prop :=
  ∃ A cap, e = .returned (.slice A l.length cap) ∧ w'.ownsRow base 65 3 (.slice A l.length cap) l.length (cells l) ∧ Below base w w'
theorem delete_any (F : Nat) (p : Nat → Bool) (hF : F = 107) (hp : Pred F p) (base : Nat) (A : Option Addr) (cap : Nat) (l : List Tok) (w : World) (hl : l.length ≤ 20000) (h : w.ownsRow base 65 3 (.slice A l.length cap) l.length (cells l)) (hb : base ≤ w.heap.size) :
    Calls Tryz.prog 106 #[.slice A l.length cap, .func (.func F) #[] #[]] w (Kept w base (l.filter fun t => !p t.k)) := by
  by_cases h0 : l.length = 0
  · obtain rfl : l = [] := List.length_eq_zero_iff.1 h0
    exact (delete_nil A cap _ w).mono fun e w' ⟨he, hw⟩ => ⟨A, cap, he, by rw [← hw]; exact h, by rw [← hw]; exact Below.refl _ _⟩
  · obtain ⟨g, c, hv, hbg, hlt⟩ := h.form (by omega)
    injection hv with e1 e2 e3
    subst e1 e3
    obtain ⟨O, hbase⟩ := own3_of h
    have fin : ∀ l' e w', Cut w g l' e w' → Kept w base l' e w' := fun l' e w' ⟨c', he, ho, hg⟩ => ⟨_, c', he, ho.own hbase, (Below.refl _ _).grown hg hb (fun k hk => by cases hk; exact hbase)⟩
    rcases first_hit (fun i => p (l.getD i ⟨0, [], 0⟩).k) l.length with hn | ⟨j, hj, h1, h2⟩
    · have hno : ∀ i (hi : i < l.length), p l[i].k = false := fun i hi => by
        have := hn i hi
        simp only [List.getD, List.getElem?_eq_getElem hi, Option.getD_some] at this
        exact this
      have e : (l.filter fun t => !p t.k) = l := by
        rw [List.filter_eq_self]
        intro t ht
        obtain ⟨i, hi, rfl⟩ := List.mem_iff_getElem.1 ht
        simp [hno i hi]
      rw [e]
      subst hF
      exact (delete_none_24 p hp g cap l w hl O hno).mono fun e w' h => fin _ e w' h
    · have hno : ∀ i (hi : i < l.length), i < j → p l[i].k = false := fun i hi hij => by
        have := h2 i hij
        simp only [List.getD, List.getElem?_eq_getElem hi, Option.getD_some] at this
        exact this
      have hyes : p l[j].k = true := by
        simp only [List.getD, List.getElem?_eq_getElem hj, Option.getD_some] at h1
        exact h1
      subst hF
      exact (delete_some_24 p hp g cap j l w hl O hj hno hyes).mono fun e w' h => fin _ e w' h
end Go.Proofs.YticbcnhbpbaocaaGreatDoor

namespace Go.Proofs.YticbcnhbpbaocaaGreatDoor
open Go.RowKit M

theorem read_any (s : ByteArray) (w : World) (hm : s.size ≤ maxLen) (hG : Glob w) :
    Calls Tryz.prog 105 #[.string s] w (Reads w (scanR s.data.toList).1 (scanR s.data.toList).2.1 (scanR s.data.toList).2.2) := by
  unfold scanR
  by_cases h : 20000 < s.size
  · rw [if_pos (by rw [← size_list]; exact h)]
    exact read_long s w h hm
  · rw [if_neg (by rw [← size_list]; exact h)]
    exact read_short s w (by omega) hG

set_option maxRecDepth 100000 in
theorem scan_err (s : ByteArray) (w : World) (hm : s.size ≤ maxLen) (hG : Glob w) (he : scanE s.data.toList ≠ 0) :
    Calls Tryz.prog 80 #[.string s] w (Reads w (scanL s.data.toList) (scanA s.data.toList) (scanE s.data.toList)) := by
  have H := Lib.hid (read_any s w hm hG)
  have HE : (((scanR s.data.toList).2.2 : Int) != 0) = true := by unfold scanE at he; simp; omega
  have HL : Hid (scanL s.data.toList = []) := by unfold scanL scanE at *; exact if_neg he
  clear hG he
  go_enter Tryz.func80, Tryz.ntmps80
  go_wp2_with fail
  refine H.out.mono ?_
  rintro e w2 ⟨A, cap, rfl, ho, hb⟩
  have HB := Lib.hid hb
  clear ho hb
  go_wp2
  go_ret3
  refine ⟨none, 0, ?_, ?_, HB.out⟩
  · rw [HL.out]; rfl
  · rw [HL.out]; exact World.ownsRow_nil _ _ _ _

set_option maxRecDepth 100000 in
theorem scan_ok (s : ByteArray) (w : World) (hm : s.size ≤ maxLen) (hG : Glob w) (he : scanE s.data.toList = 0) :
    Calls Tryz.prog 80 #[.string s] w (Reads w (scanL s.data.toList) (scanA s.data.toList) (scanE s.data.toList)) := by
  have H := Lib.hid (read_any s w hm hG)
  have HE : (((scanR s.data.toList).2.2 : Int) != 0) = false := by unfold scanE at he; simp; omega
  have HL : Hid (scanL s.data.toList = (scanR s.data.toList).1.filter (fun t => !(t.k == 5))) := by unfold scanL scanE at *; exact if_pos he
  have HA := Lib.hid (scanA_zero _ he)
  have HZ := Lib.hid he
  clear hG he
  go_enter Tryz.func80, Tryz.ntmps80
  go_wp2_with fail
  refine H.out.mono ?_
  rintro e w2 ⟨A, cap, rfl, ho, hb⟩
  have HO := Lib.hid ho
  have HB := Lib.hid hb
  clear ho hb
  go_wp2_with fail
  refine (delete_any 107 _ rfl pred24 w.heap.size A cap _ _ (scanR_len _) HO.out HB.out.size).mono ?_
  rintro e w3 ⟨A2, cap2, rfl, ho2, hb2⟩
  have HO2 := Lib.hid ho2
  have HB2 := Lib.hid hb2
  clear ho2 hb2
  go_wp2
  go_ret3
  refine ⟨A2, cap2, ?_, ?_, HB.out.trans HB2.out⟩
  · rw [HL.out, HA.out, HZ.out]; rfl
  · rw [HL.out]; exact HO2.out
theorem scan_any (s : ByteArray) (w : World) (hm : s.size ≤ maxLen) (hG : Glob w) :
    Calls Tryz.prog 80 #[.string s] w (Reads w (scanL s.data.toList) (scanA s.data.toList) (scanE s.data.toList)) := by
  by_cases he : scanE s.data.toList = 0
  · exact scan_ok s w hm hG he
  · exact scan_err s w hm hG he
end Go.Proofs.YticbcnhbpbaocaaGreatDoor

