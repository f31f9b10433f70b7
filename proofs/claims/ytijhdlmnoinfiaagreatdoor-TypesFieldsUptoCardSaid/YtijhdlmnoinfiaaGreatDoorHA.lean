/-
  Of: the plain mathematics; the walks of kindOf, typeName, IsType.
-/
import Derived.Test.YtijhdlmnoinfiaaGreatDoorFG
import Derived.BigQuiet
set_option linter.all false
namespace Go.Proofs.YtijhdlmnoinfiaaGreatDoor
open Go.RowKit T T.Fo Ty
/-- The kind that a word denotes. -/
def kOf (l : List UInt8) : Int := if l = [105, 110, 116] then 1 else if l = [98, 111, 111, 108] then 2 else if l = [91, 93, 105, 110, 116] then 5 else if l = [99, 104, 97, 110] then 6 else if l = [102, 117, 110, 99] then 7 else if l = [109, 117, 116, 101, 120] then 8 else if l = [114, 119, 109, 117, 116, 101, 120] then 9 else if l = [103, 114, 111, 117, 112] then 10 else if l = [111, 110, 99, 101] then 11 else 12
/-- An NNone. -/
def noN (h : Hd) (n : Nat) : Bool := decide (h.kind = 9) && emp h.text && decide (n = 0)
def tyN (h : Hd) (n : Nat) : Bool := typeK h.kind && textFits nm h && decide (n = 0)
theorem tyB_n (h : Hd) (k : Fo) : tyB h k = tyN h k.len := rfl
def ofB (h : Hd) (n : Nat) : Bool := noN h n || tyN h n
def ofK (h : Hd) (n : Nat) : Int := if noN h n then 0 else if tyN h n then (if h.kind = 8 then 4 else kOf h.text.toList) else 0
def ofN (h : Hd) (n : Nat) : ByteArray := if tyN h n && decide (h.kind = 8) then h.text else ⟨#[]⟩
theorem ieq0 (n : Nat) : ((n : Int) == 0) = decide (n = 0) := by by_cases h : n = 0 <;> simp [h]
/-- What Of returns. -/
def OfPost (h : Hd) (n : Nat) (w : World) (e : Ending) (w' : World) : Prop := e = .returned (.tuple #[tyv (ofK h n) (ofN h n), .bool (ofB h n)]) ∧ Below w.heap.size w w'
theorem typeName_any (s : ByteArray) (w : World) : Calls Tryz.prog 46 #[.string s] w fun e w' => e = .returned (.bool (T.isTypeText s)) ∧ w = w' := by
  have e : T.isTypeText s = typeWords.contains s.toList := by unfold T.isTypeText; rw [ByteArray.toList_eq]
  rw [e]
  go_enter Tryz.func46, Tryz.ntmps46
  go_wp2
  all_goals go_ret
  all_goals refine ⟨ret_bool ?_, rfl⟩
  all_goals first
    | (refine in_yes (by assumption) (by decide))
    | (simp_all [typeWords])
theorem kind_n8 {h : Hd} (e : h.kind = 8) : textFits nm h = nam h.text := by unfold textFits namedK; rw [e, nm_eq]; rfl
theorem kind_n7 {h : Hd} (e : h.kind = 7) : textFits nm h = T.isTypeText h.text := by unfold textFits namedK; rw [e]; rfl
set_option maxRecDepth 100000 in
set_option maxHeartbeats 1000000 in
theorem rIsType_any (h : Hd) (A : Option Addr) (n cap : Nat) (w : World) (hm : h.text.size ≤ maxLen) : Calls Tryz.prog 39 #[nv h A n cap] w fun e w' => e = .returned (.bool (tyN h n)) ∧ Below w.heap.size w w' := by
  have HN : Hid (∀ W, Calls Tryz.prog 43 #[.string h.text] W fun e w' => e = .returned (.bool (nam h.text)) ∧ W = w') := Lib.hid fun W => rname_any _ W hm
  by_cases h8 : h.kind = 8
  · have HT : Hid (tyN h n = (nam h.text && decide (n = 0))) := Lib.hid (by unfold tyN; rw [kind_n8 h8, h8]; rfl)
    have e8 : (h.kind == 8) = true := by simp [h8]
    clear h8 hm
    go_enter Tryz.func39, Tryz.ntmps39
    go_wp2_with (go_at_call 43; refine (HN.out _).mono ?_; rintro e w' ⟨rfl, rfl⟩)
    all_goals go_ret
    all_goals exact ⟨ret_bool (by rw [HT.out]; first | (simp_all; done) | (simp_all [ieq0]; done)), b1 _ _⟩
  · by_cases h7 : h.kind = 7
    · have HT : Hid (tyN h n = (T.isTypeText h.text && decide (n = 0))) := Lib.hid (by unfold tyN; rw [kind_n7 h7, h7]; rfl)
      have e8 : (h.kind == 8) = false := by simp [h8]
      have e7 : (h.kind == 7) = true := by simp [h7]
      clear h8 h7 hm
      go_enter Tryz.func39, Tryz.ntmps39
      go_wp2_with (go_at_call 46; refine (typeName_any _ _).mono ?_; rintro e w' ⟨rfl, rfl⟩)
      all_goals go_ret
      all_goals exact ⟨ret_bool (by rw [HT.out]; first | (simp_all; done) | (simp_all [ieq0]; done)), b1 _ _⟩
    · have HT : Hid (tyN h n = false) := Lib.hid (by unfold tyN typeK; simp [h7, h8])
      have e8 : (h.kind == 8) = false := by simp [h8]
      have e7 : (h.kind == 7) = false := by simp [h7]
      clear h8 h7 hm
      go_enter Tryz.func39, Tryz.ntmps39
      go_wp2
      go_ret
      exact ⟨ret_bool HT.out.symm, b1 _ _⟩

/-- The table of texts as a value. -/
def txCells : Array Value := #[.string ⟨(txArr.getD 0 []).toArray⟩, .string ⟨(txArr.getD 1 []).toArray⟩, .string ⟨(txArr.getD 2 []).toArray⟩, .string ⟨(txArr.getD 3 []).toArray⟩, .string ⟨(txArr.getD 4 []).toArray⟩, .string ⟨(txArr.getD 5 []).toArray⟩, .string ⟨(txArr.getD 6 []).toArray⟩, .string ⟨(txArr.getD 7 []).toArray⟩, .string ⟨(txArr.getD 8 []).toArray⟩, .string ⟨(txArr.getD 9 []).toArray⟩, .string ⟨(txArr.getD 10 []).toArray⟩, .string ⟨(txArr.getD 11 []).toArray⟩, .string ⟨(txArr.getD 12 []).toArray⟩]
def txK (k : Nat) : ByteArray := ⟨(txArr.getD k []).toArray⟩
theorem ixt_0 (w : World) : (Instr.index 53 (.agg txCells) (.int .i64 0)).run Tryz.prog w = .ok (.string (txK 0)) w := by kernel_rfl
theorem ixt_1 (w : World) : (Instr.index 53 (.agg txCells) (.int .i64 1)).run Tryz.prog w = .ok (.string (txK 1)) w := by kernel_rfl
theorem ixt_2 (w : World) : (Instr.index 53 (.agg txCells) (.int .i64 2)).run Tryz.prog w = .ok (.string (txK 2)) w := by kernel_rfl
theorem ixt_3 (w : World) : (Instr.index 53 (.agg txCells) (.int .i64 3)).run Tryz.prog w = .ok (.string (txK 3)) w := by kernel_rfl
theorem ixt_4 (w : World) : (Instr.index 53 (.agg txCells) (.int .i64 4)).run Tryz.prog w = .ok (.string (txK 4)) w := by kernel_rfl
theorem ixt_5 (w : World) : (Instr.index 53 (.agg txCells) (.int .i64 5)).run Tryz.prog w = .ok (.string (txK 5)) w := by kernel_rfl
theorem ixt_6 (w : World) : (Instr.index 53 (.agg txCells) (.int .i64 6)).run Tryz.prog w = .ok (.string (txK 6)) w := by kernel_rfl
theorem ixt_7 (w : World) : (Instr.index 53 (.agg txCells) (.int .i64 7)).run Tryz.prog w = .ok (.string (txK 7)) w := by kernel_rfl
theorem ixt_8 (w : World) : (Instr.index 53 (.agg txCells) (.int .i64 8)).run Tryz.prog w = .ok (.string (txK 8)) w := by kernel_rfl
theorem ixt_9 (w : World) : (Instr.index 53 (.agg txCells) (.int .i64 9)).run Tryz.prog w = .ok (.string (txK 9)) w := by kernel_rfl
theorem ixt_10 (w : World) : (Instr.index 53 (.agg txCells) (.int .i64 10)).run Tryz.prog w = .ok (.string (txK 10)) w := by kernel_rfl
theorem ixt_11 (w : World) : (Instr.index 53 (.agg txCells) (.int .i64 11)).run Tryz.prog w = .ok (.string (txK 11)) w := by kernel_rfl
theorem ixt_12 (w : World) : (Instr.index 53 (.agg txCells) (.int .i64 12)).run Tryz.prog w = .ok (.string (txK 12)) w := by kernel_rfl
theorem index_tx (k : Nat) (h : k < 13) (w : World) : (Instr.index 53 (.agg txCells) (.int .i64 (k : Int))).run Tryz.prog w = .ok (.string (txK k)) w := by
  match k, h with
  | 0, _ => exact ixt_0 w
  | 1, _ => exact ixt_1 w
  | 2, _ => exact ixt_2 w
  | 3, _ => exact ixt_3 w
  | 4, _ => exact ixt_4 w
  | 5, _ => exact ixt_5 w
  | 6, _ => exact ixt_6 w
  | 7, _ => exact ixt_7 w
  | 8, _ => exact ixt_8 w
  | 9, _ => exact ixt_9 w
  | 10, _ => exact ixt_10 w
  | 11, _ => exact ixt_11 w
  | 12, _ => exact ixt_12 w
  | _ + 13, h => exact absurd h (by omega)
theorem tx_at (k : Nat) (h : k < 13) : txCells[k]? = some (.string ⟨(txArr.getD k []).toArray⟩) := by
  match k, h with
  | 0, _ => rfl
  | 1, _ => rfl
  | 2, _ => rfl
  | 3, _ => rfl
  | 4, _ => rfl
  | 5, _ => rfl
  | 6, _ => rfl
  | 7, _ => rfl
  | 8, _ => rfl
  | 9, _ => rfl
  | 10, _ => rfl
  | 11, _ => rfl
  | 12, _ => rfl
  | _ + 13, h => exact absurd h (by omega)
theorem load_tx (w : World) (h : Glot w) : (loadVar 53 ⟨0, 0, none⟩).run Tryz.prog w = .ok (.agg txCells) w := by
  have hl : (loadCells ⟨0, 0, none⟩ txCells.toList.length).run Tryz.prog w = .ok txCells.toList.toArray w :=
    run_loadCells_list (P := Tryz.prog) w ⟨0, 0, none⟩ txCells.toList (fun j v hv => by
      have hadd : (⟨0, 0, none⟩ : Addr).add j = ⟨0, j, none⟩ := by unfold Addr.add; split <;> simp_all
      have hj : j < 13 := by
        have := (List.getElem?_eq_some_iff.1 hv).1
        exact this
      rw [hadd, h.2 j hj, ← tx_at j hj]
      simpa using hv)
  have hagg : (isAgg 53).run Tryz.prog w = .ok true w := by
    unfold isAgg
    rw [Sem.run_bind, run_underlying Tryz.underlying53 w]
    rfl
  have hi : (Tryz.prog.info? 53).map (·.size) = some 13 := by kernel_rfl
  cases hq : Tryz.prog.info? 53 with
  | none => simp [hq] at hi
  | some i =>
    have hs : i.size = 13 := by simpa [hq] using hi
    simp only [Array.length_toList, Array.toArray_toList] at hl
    have hl2 : (loadCells ⟨0, 0, none⟩ 13).run Tryz.prog w = .ok txCells w := hl
    simp [loadVar, Sem.run_bind, hagg, sizeOf, typeInfo, hq, hs, hl2]
theorem wp_load_tx {ops : Array Oper} {rest : List Oper} {o : Oper} {a : Act} {w : World} {Q : Exit → Act → World → Prop} (hgd : o.guard = none) (x : Operand) (ho : o.op = .load 53 x)
    (hx : a.eval x = .pointer (some ⟨0, 0, none⟩)) (hg : Glot w) (h : wpList Tryz.prog ops Q rest (a.put o.dst (.agg txCells)) w) : wpList Tryz.prog ops Q (o :: rest) a w :=
  wpList_plain hgd fun _ hK => by
    unfold Oper.wp execOp
    simp only [ho, hx, Instr.loadAt, Instr.sureAddr, Sem.run_bind, Sem.run_pure, Result.andThen_ok, load_tx w hg]
    exact hK _ _ h
set_option maxRecDepth 100000 in
set_option maxHeartbeats 1000000 in
theorem kindOf_at (j : Nat) (s : ByteArray) (w : World) (hG : Glot w) (hj : j < 13) (h6 : (s.toList == [99, 104, 97, 110]) = false) (h7 : (s.toList == [102, 117, 110, 99]) = false)
    (hlo : ∀ k, k < j → ((txK k).toList == s.toList) = false) (hhi : ((txK j).toList == s.toList) = true) : Calls Tryz.prog 38 #[.string s] w fun e w' => e = .returned (.int .i64 (j : Int)) ∧ w = w' := by
  have HG := Lib.hid hG
  have HL := Lib.hid hlo
  have HH := Lib.hid hhi
  clear hG hlo hhi
  go_enter Tryz.func38, Tryz.ntmps38
  go_wp2_with (refine wp_load_tx rfl _ rfl rfl HG.out ?_)
  go_loop [11] (fun i => ∃ k : Nat, k ≤ j ∧ i = .int .i64 k) (fun i => 13 - (intOf i).toNat)
  case atStart => exact ⟨0, Nat.zero_le _, rfl⟩
  case round =>
    obtain ⟨k, hk, rfl⟩ := hrel
    have hk13 : (k : Int) < 13 := by omega
    have hix := index_tx k (by omega)
    by_cases hkj : k < j
    · have ht := HL.out k hkj
      go_wp2
      go_round
      case rel => exact ⟨k + 1, by omega, by go_num⟩
      case measure => simp [intOf]; omega
    · obtain rfl : k = j := by omega
      have ht := HH.out
      go_wp2
      go_ret
      exact ⟨rfl, rfl⟩
theorem kindOf_chan (w : World) : Calls Tryz.prog 38 #[.string ⟨#[99, 104, 97, 110]⟩] w fun e w' => e = .returned (.int .i64 6) ∧ w = w' := by
  go_enter Tryz.func38, Tryz.ntmps38
  go_wp2
  go_ret
  exact ⟨rfl, rfl⟩
theorem kindOf_func (w : World) : Calls Tryz.prog 38 #[.string ⟨#[102, 117, 110, 99]⟩] w fun e w' => e = .returned (.int .i64 7) ∧ w = w' := by
  go_enter Tryz.func38, Tryz.ntmps38
  go_wp2
  go_ret
  exact ⟨rfl, rfl⟩
/-- A type's word. -/
def IsW (s : ByteArray) : Prop := s = ⟨#[105, 110, 116]⟩ ∨ s = ⟨#[98, 111, 111, 108]⟩ ∨ s = ⟨#[91, 93, 105, 110, 116]⟩ ∨ s = ⟨#[99, 104, 97, 110]⟩ ∨ s = ⟨#[102, 117, 110, 99]⟩ ∨ s = ⟨#[109, 117, 116, 101, 120]⟩ ∨ s = ⟨#[114, 119, 109, 117, 116, 101, 120]⟩ ∨ s = ⟨#[103, 114, 111, 117, 112]⟩ ∨ s = ⟨#[111, 110, 99, 101]⟩ ∨ s = ⟨#[97, 116, 111, 109, 105, 99]⟩
theorem isW_of {s : ByteArray} (h : T.isTypeText s = true) : IsW s := by
  unfold T.isTypeText typeWords at h
  simp only [List.contains_cons, List.contains_nil, Bool.or_false, Bool.or_eq_true, beq_iff_eq] at h
  unfold IsW
  have k : ∀ {l : List UInt8} {s : ByteArray}, s.data.toList = l → s = ⟨l.toArray⟩ := fun {l s} e => by subst e; rfl
  rcases h with h | h | h | h | h | h | h | h | h | h
  · exact .inl (k h)
  · exact .inr (.inl (k h))
  · exact .inr (.inr (.inl (k h)))
  · exact .inr (.inr (.inr (.inl (k h))))
  · exact .inr (.inr (.inr (.inr (.inl (k h)))))
  · exact .inr (.inr (.inr (.inr (.inr (.inl (k h))))))
  · exact .inr (.inr (.inr (.inr (.inr (.inr (.inl (k h)))))))
  · exact .inr (.inr (.inr (.inr (.inr (.inr (.inr (.inl (k h))))))))
  · exact .inr (.inr (.inr (.inr (.inr (.inr (.inr (.inr (.inl (k h)))))))))
  · exact .inr (.inr (.inr (.inr (.inr (.inr (.inr (.inr (.inr ((k h))))))))))
theorem kindOf_any (s : ByteArray) (w : World) (hG : Glot w) (h : T.isTypeText s = true) : Calls Tryz.prog 38 #[.string s] w fun e w' => e = .returned (.int .i64 (kOf s.toList)) ∧ w = w' := by
  rcases isW_of h with rfl | rfl | rfl | rfl | rfl | rfl | rfl | rfl | rfl | rfl
  · have t : (⟨#[105, 110, 116]⟩ : ByteArray).toList = [105, 110, 116] := by rw [ByteArray.toList_eq]
    have e : kOf (⟨#[105, 110, 116]⟩ : ByteArray).toList = 1 := by rw [t]; rfl
    rw [e]
    refine kindOf_at 1 _ w hG (by decide) (by rw [t]; rfl) (by rw [t]; rfl) (fun k hk => ?_) (by rw [t, ByteArray.toList_eq]; rfl)
    rw [t, ByteArray.toList_eq]
    match k, hk with
    | 0, _ => rfl
    | _ + 1, h => exact absurd h (by omega)
  · have t : (⟨#[98, 111, 111, 108]⟩ : ByteArray).toList = [98, 111, 111, 108] := by rw [ByteArray.toList_eq]
    have e : kOf (⟨#[98, 111, 111, 108]⟩ : ByteArray).toList = 2 := by rw [t]; rfl
    rw [e]
    refine kindOf_at 2 _ w hG (by decide) (by rw [t]; rfl) (by rw [t]; rfl) (fun k hk => ?_) (by rw [t, ByteArray.toList_eq]; rfl)
    rw [t, ByteArray.toList_eq]
    match k, hk with
    | 0, _ => rfl
    | 1, _ => rfl
    | _ + 2, h => exact absurd h (by omega)
  · have t : (⟨#[91, 93, 105, 110, 116]⟩ : ByteArray).toList = [91, 93, 105, 110, 116] := by rw [ByteArray.toList_eq]
    have e : kOf (⟨#[91, 93, 105, 110, 116]⟩ : ByteArray).toList = 5 := by rw [t]; rfl
    rw [e]
    refine kindOf_at 5 _ w hG (by decide) (by rw [t]; rfl) (by rw [t]; rfl) (fun k hk => ?_) (by rw [t, ByteArray.toList_eq]; rfl)
    rw [t, ByteArray.toList_eq]
    match k, hk with
    | 0, _ => rfl
    | 1, _ => rfl
    | 2, _ => rfl
    | 3, _ => rfl
    | 4, _ => rfl
    | _ + 5, h => exact absurd h (by omega)
  · have t : (⟨#[99, 104, 97, 110]⟩ : ByteArray).toList = [99, 104, 97, 110] := by rw [ByteArray.toList_eq]
    rw [t]
    exact kindOf_chan w
  · have t : (⟨#[102, 117, 110, 99]⟩ : ByteArray).toList = [102, 117, 110, 99] := by rw [ByteArray.toList_eq]
    rw [t]
    exact kindOf_func w
  · have t : (⟨#[109, 117, 116, 101, 120]⟩ : ByteArray).toList = [109, 117, 116, 101, 120] := by rw [ByteArray.toList_eq]
    have e : kOf (⟨#[109, 117, 116, 101, 120]⟩ : ByteArray).toList = 8 := by rw [t]; rfl
    rw [e]
    refine kindOf_at 8 _ w hG (by decide) (by rw [t]; rfl) (by rw [t]; rfl) (fun k hk => ?_) (by rw [t, ByteArray.toList_eq]; rfl)
    rw [t, ByteArray.toList_eq]
    match k, hk with
    | 0, _ => rfl
    | 1, _ => rfl
    | 2, _ => rfl
    | 3, _ => rfl
    | 4, _ => rfl
    | 5, _ => rfl
    | 6, _ => rfl
    | 7, _ => rfl
    | _ + 8, h => exact absurd h (by omega)
  · have t : (⟨#[114, 119, 109, 117, 116, 101, 120]⟩ : ByteArray).toList = [114, 119, 109, 117, 116, 101, 120] := by rw [ByteArray.toList_eq]
    have e : kOf (⟨#[114, 119, 109, 117, 116, 101, 120]⟩ : ByteArray).toList = 9 := by rw [t]; rfl
    rw [e]
    refine kindOf_at 9 _ w hG (by decide) (by rw [t]; rfl) (by rw [t]; rfl) (fun k hk => ?_) (by rw [t, ByteArray.toList_eq]; rfl)
    rw [t, ByteArray.toList_eq]
    match k, hk with
    | 0, _ => rfl
    | 1, _ => rfl
    | 2, _ => rfl
    | 3, _ => rfl
    | 4, _ => rfl
    | 5, _ => rfl
    | 6, _ => rfl
    | 7, _ => rfl
    | 8, _ => rfl
    | _ + 9, h => exact absurd h (by omega)
  · have t : (⟨#[103, 114, 111, 117, 112]⟩ : ByteArray).toList = [103, 114, 111, 117, 112] := by rw [ByteArray.toList_eq]
    have e : kOf (⟨#[103, 114, 111, 117, 112]⟩ : ByteArray).toList = 10 := by rw [t]; rfl
    rw [e]
    refine kindOf_at 10 _ w hG (by decide) (by rw [t]; rfl) (by rw [t]; rfl) (fun k hk => ?_) (by rw [t, ByteArray.toList_eq]; rfl)
    rw [t, ByteArray.toList_eq]
    match k, hk with
    | 0, _ => rfl
    | 1, _ => rfl
    | 2, _ => rfl
    | 3, _ => rfl
    | 4, _ => rfl
    | 5, _ => rfl
    | 6, _ => rfl
    | 7, _ => rfl
    | 8, _ => rfl
    | 9, _ => rfl
    | _ + 10, h => exact absurd h (by omega)
  · have t : (⟨#[111, 110, 99, 101]⟩ : ByteArray).toList = [111, 110, 99, 101] := by rw [ByteArray.toList_eq]
    have e : kOf (⟨#[111, 110, 99, 101]⟩ : ByteArray).toList = 11 := by rw [t]; rfl
    rw [e]
    refine kindOf_at 11 _ w hG (by decide) (by rw [t]; rfl) (by rw [t]; rfl) (fun k hk => ?_) (by rw [t, ByteArray.toList_eq]; rfl)
    rw [t, ByteArray.toList_eq]
    match k, hk with
    | 0, _ => rfl
    | 1, _ => rfl
    | 2, _ => rfl
    | 3, _ => rfl
    | 4, _ => rfl
    | 5, _ => rfl
    | 6, _ => rfl
    | 7, _ => rfl
    | 8, _ => rfl
    | 9, _ => rfl
    | 10, _ => rfl
    | _ + 11, h => exact absurd h (by omega)
  · have t : (⟨#[97, 116, 111, 109, 105, 99]⟩ : ByteArray).toList = [97, 116, 111, 109, 105, 99] := by rw [ByteArray.toList_eq]
    have e : kOf (⟨#[97, 116, 111, 109, 105, 99]⟩ : ByteArray).toList = 12 := by rw [t]; rfl
    rw [e]
    refine kindOf_at 12 _ w hG (by decide) (by rw [t]; rfl) (by rw [t]; rfl) (fun k hk => ?_) (by rw [t, ByteArray.toList_eq]; rfl)
    rw [t, ByteArray.toList_eq]
    match k, hk with
    | 0, _ => rfl
    | 1, _ => rfl
    | 2, _ => rfl
    | 3, _ => rfl
    | 4, _ => rfl
    | 5, _ => rfl
    | 6, _ => rfl
    | 7, _ => rfl
    | 8, _ => rfl
    | 9, _ => rfl
    | 10, _ => rfl
    | 11, _ => rfl
    | _ + 12, h => exact absurd h (by omega)
end Go.Proofs.YtijhdlmnoinfiaaGreatDoor
