/-
  The walks of the program's roles, rolesOf, operands.
-/
import Derived.Test.YtekfhgldebhigaaDoorCA
import Derived.Laws.Rows
import Derived.Deep.MidRow
set_option linter.all false
namespace Go.Proofs.YtekfhgldebhigaaDoor
open Go.RowKit C
set_option maxRecDepth 100000
/-- The table as it lies in memory. -/
def TL : List Value := [.string ⟨#[]⟩, .string ⟨#[100, 105, 45]⟩, .string ⟨#[100, 45, 45]⟩, .string ⟨#[100, 115, 45]⟩, .string ⟨#[100, 115, 115]⟩, .string ⟨#[100, 115, 115]⟩, .string ⟨#[100, 115, 115]⟩, .string ⟨#[100, 115, 115]⟩, .string ⟨#[100, 115, 115]⟩, .string ⟨#[100, 115, 45]⟩, .string ⟨#[100, 115, 45]⟩, .string ⟨#[100, 115, 115]⟩, .string ⟨#[100, 115, 115]⟩, .string ⟨#[100, 115, 115]⟩, .string ⟨#[100, 115, 115]⟩, .string ⟨#[100, 115, 45]⟩, .string ⟨#[45, 45, 116]⟩, .string ⟨#[115, 45, 116]⟩, .string ⟨#[100, 103, 45]⟩, .string ⟨#[100, 115, 111]⟩, .string ⟨#[100, 115, 115]⟩, .string ⟨#[100, 108, 45]⟩, .string ⟨#[100, 115, 45]⟩, .string ⟨#[100, 115, 45]⟩, .string ⟨#[100, 102, 110]⟩, .string ⟨#[100, 107, 45]⟩, .string ⟨#[68, 102, 97]⟩, .string ⟨#[115, 45, 45]⟩, .string ⟨#[45, 102, 97]⟩, .string ⟨#[115, 45, 45]⟩, .string ⟨#[83, 45, 45]⟩, .string ⟨#[45, 102, 97]⟩, .string ⟨#[115, 45, 45]⟩, .string ⟨#[100, 115, 45]⟩, .string ⟨#[115, 115, 45]⟩, .string ⟨#[100, 115, 45]⟩, .string ⟨#[115, 115, 45]⟩, .string ⟨#[100, 115, 115]⟩, .string ⟨#[100, 115, 112]⟩, .string ⟨#[115, 45, 45]⟩, .string ⟨#[115, 45, 45]⟩, .string ⟨#[115, 45, 45]⟩, .string ⟨#[115, 45, 45]⟩, .string ⟨#[115, 115, 45]⟩, .string ⟨#[115, 45, 45]⟩, .string ⟨#[115, 45, 116]⟩, .string ⟨#[115, 45, 45]⟩, .string ⟨#[115, 115, 45]⟩, .string ⟨#[68, 115, 68]⟩, .string ⟨#[115, 45, 45]⟩, .string ⟨#[100, 99, 98]⟩, .string ⟨#[115, 98, 68]⟩, .string ⟨#[115, 45, 45]⟩]
def TV : Array Value := TL.toArray
def Z53 : Array Value := (List.replicate 53 (Value.string ⟨#[]⟩)).toArray
theorem TL_at {i : Nat} (h : i < 53) : TL[i]? = some (.string (txt (table.getD i []))) := by
  have H : ∀ i : Fin 53, TL[i.val]? = some (.string (txt (table.getD i.val []))) := by
    intro i
    match i with
    | ⟨0, _⟩ => rfl
    | ⟨1, _⟩ => rfl
    | ⟨2, _⟩ => rfl
    | ⟨3, _⟩ => rfl
    | ⟨4, _⟩ => rfl
    | ⟨5, _⟩ => rfl
    | ⟨6, _⟩ => rfl
    | ⟨7, _⟩ => rfl
    | ⟨8, _⟩ => rfl
    | ⟨9, _⟩ => rfl
    | ⟨10, _⟩ => rfl
    | ⟨11, _⟩ => rfl
    | ⟨12, _⟩ => rfl
    | ⟨13, _⟩ => rfl
    | ⟨14, _⟩ => rfl
    | ⟨15, _⟩ => rfl
    | ⟨16, _⟩ => rfl
    | ⟨17, _⟩ => rfl
    | ⟨18, _⟩ => rfl
    | ⟨19, _⟩ => rfl
    | ⟨20, _⟩ => rfl
    | ⟨21, _⟩ => rfl
    | ⟨22, _⟩ => rfl
    | ⟨23, _⟩ => rfl
    | ⟨24, _⟩ => rfl
    | ⟨25, _⟩ => rfl
    | ⟨26, _⟩ => rfl
    | ⟨27, _⟩ => rfl
    | ⟨28, _⟩ => rfl
    | ⟨29, _⟩ => rfl
    | ⟨30, _⟩ => rfl
    | ⟨31, _⟩ => rfl
    | ⟨32, _⟩ => rfl
    | ⟨33, _⟩ => rfl
    | ⟨34, _⟩ => rfl
    | ⟨35, _⟩ => rfl
    | ⟨36, _⟩ => rfl
    | ⟨37, _⟩ => rfl
    | ⟨38, _⟩ => rfl
    | ⟨39, _⟩ => rfl
    | ⟨40, _⟩ => rfl
    | ⟨41, _⟩ => rfl
    | ⟨42, _⟩ => rfl
    | ⟨43, _⟩ => rfl
    | ⟨44, _⟩ => rfl
    | ⟨45, _⟩ => rfl
    | ⟨46, _⟩ => rfl
    | ⟨47, _⟩ => rfl
    | ⟨48, _⟩ => rfl
    | ⟨49, _⟩ => rfl
    | ⟨50, _⟩ => rfl
    | ⟨51, _⟩ => rfl
    | ⟨52, _⟩ => rfl
    | ⟨_ + 53, h⟩ => exact absurd h (by omega)
  exact H ⟨i, h⟩
theorem TV_list : TV.toList = TL := rfl
theorem TL_len : TL.length = 53 := rfl
theorem TV_size : TV.size = 53 := rfl
theorem TV_one : TV.all (·.oneCell') = true := by kernel_rfl
theorem info53 : (Tryd.prog.info? 77).map (·.size) = some 53 := by kernel_rfl
theorem run_alloc53 (w : World) : (Instr.alloc 77 true (.tuple #[])).run Tryd.prog w = .ok (.pointer (some ⟨w.heap.size, 0, none⟩)) (w.alloc (.cells Z53 77)) := by kernel_rfl
theorem wpList_alloc53 {ops : Array Oper} {rest : List Oper} {o : Oper} {a : Act} {w : World} {Q : Exit → Act → World → Prop} (hgd : o.guard = none) (ho : o.op = .alloc 77)
    (h : wpList Tryd.prog ops Q rest (a.put o.dst (.pointer (some ⟨w.heap.size, 0, none⟩))) (w.alloc (.cells Z53 77))) : wpList Tryd.prog ops Q (o :: rest) a w :=
  wpList_plain hgd fun _ hK => by
    unfold Oper.wp execOp
    simp only [ho, Sem.run_bind, run_alloc53, Sem.run_pure, Result.andThen_ok]
    exact hK _ _ h
theorem wpList_build53 {ops : Array Oper} {rest : List Oper} {o : Oper} {a : Act} {w : World} {Q : Exit → Act → World → Prop} (hgd : o.guard = none) (parts : Array (Nat × Operand)) (ho : o.op = .build 77 parts)
    (hb : (Instr.build 77 (parts.map fun x => (x.1, a.eval x.2))).run Tryd.prog w = .ok (.agg TV) w)
    (h : wpList Tryd.prog ops Q rest (a.put o.dst (.agg TV)) w) : wpList Tryd.prog ops Q (o :: rest) a w :=
  wpList_plain hgd fun _ hK => by
    unfold Oper.wp execOp
    simp only [ho, Sem.run_bind, hb, Sem.run_pure, Result.andThen_ok]
    exact hK _ _ h
theorem wpList_store53 {ops : Array Oper} {rest : List Oper} {o : Oper} {a : Act} {w : World} {Q : Exit → Act → World → Prop} (hgd : o.guard = none) (x y : Operand) (ho : o.op = .store 77 x y)
    (b : Nat) (hx : a.eval x = .pointer (some ⟨b, 0, none⟩)) (hy : a.eval y = .agg TV) (ht : w.there b 0 53)
    (h : wpList Tryd.prog ops Q rest (a.put o.dst undef) (w.setCells b 0 TL)) : wpList Tryd.prog ops Q (o :: rest) a w :=
  wpList_store_mid hgd 77 x y ho b 0 TV hx hy ht info53 TV_one h
theorem there_new (w : World) : (w.alloc (.cells Z53 77)).there w.heap.size 0 53 := fun j hj => by
  have h := heap_alloc_new w (.cells Z53 77)
  have hs : Z53.size = 53 := by simp [Z53]
  rw [Nat.zero_add]
  refine ⟨?_, frozen_of_row _ _ _ _ _ h⟩
  rw [cell_of_row _ _ _ _ _ _ h, Array.getElem?_eq_getElem (by omega)]; rfl
theorem bel_setCells {B : Nat} {a : World} (b : Nat) (hb : B ≤ b) : ∀ (vs : List Value) (o : Nat) (w : World), Below B a w → Below B a (w.setCells b o vs)
  | [], _, _, h => h
  | v :: r, o, w, h => bel_setCells b hb r (o + 1) _ (h.setCell hb v)
set_option maxHeartbeats 4000000 in
theorem roles53 (w : World) : Calls Tryd.prog 70 #[] w fun e w' => e = .returned (.agg TV) ∧ Below w.heap.size w w' := by
  go_enter Tryd.func70, Tryd.ntmps70
  go_wp2_with (first
    | (with_reducible refine wpList_alloc53 rfl rfl ?_)
    | (refine wpList_build53 rfl _ (by rfl) (by as_aux_lemma => kernel_rfl) ?_)
    | (refine wpList_store53 rfl _ _ (by rfl) w.heap.size (by rfl) (by rfl) (there_new w) ?_))
  refine bodyPost_ret (v := .agg TV) ?_ rfl ⟨rfl, ?_⟩
  · have hr := World.rangeAt_setCells_same (w.alloc (.cells Z53 77)) w.heap.size 0 TL (there_new w)
    have hl : (loadVar 77 ⟨w.heap.size, 0, none⟩).run Tryd.prog ((w.alloc (.cells Z53 77)).setCells w.heap.size 0 TL) = .ok (.agg TV) ((w.alloc (.cells Z53 77)).setCells w.heap.size 0 TL) :=
      run_loadVar_mid _ _ 0 77 TL _ hr Tryd.underlying77 rfl (by rw [info53]; rfl)
    simp [results, Tryd.results70, asAddr, Act.put, hl]
  · exact bel_setCells _ (Nat.le_refl _) TL 0 _ (below1 _ _)

/-! ### operands -/
abbrev ov (x : In) : Value := .agg #[.int .i64 x.a, .int .i64 x.b, .int .i64 x.c]
set_option maxHeartbeats 2000000 in
theorem operands_any (x : In) (w : World) : Calls Tryd.prog 58 #[xv x] w fun e w' => e = .returned (ov x) ∧ Below w.heap.size w w' := by
  go_enter Tryd.func58, Tryd.ntmps58
  go_wp2
  exact bodyPost_ret (v := ov x) (by simp [results, Tryd.results58, go_sem]) rfl ⟨rfl, below2 _ _ _⟩

/-! ### rolesOf -/
theorem ret_s {a b : ByteArray} (h : a = b) : Ending.returned (.string a) = .returned (.string b) := by rw [h]
set_option maxHeartbeats 1000000 in
theorem rolesOf_any (x : In) (w : World) : Calls Tryd.prog 57 #[xv x] w fun e w' => e = .returned (.string (txt (rolesP x))) ∧ Below w.heap.size w w' := by
  have HR : Hid (∀ V, Calls Tryd.prog 70 #[] V fun e w' => e = .returned (.agg TV) ∧ Below V.heap.size V w') := Lib.hid roles53
  have hb1 := below1 w (.cells #[.int .i64 x.op, .int .i64 x.a, .int .i64 x.b, .int .i64 x.c, .int .i64 x.at'] 34)
  have hn := heap_alloc_new w (.cells #[.int .i64 x.op, .int .i64 x.a, .int .i64 x.b, .int .i64 x.c, .int .i64 x.at'] 34)
  have key : ∀ w1, Below (w.alloc (.cells #[.int .i64 x.op, .int .i64 x.a, .int .i64 x.b, .int .i64 x.c, .int .i64 x.at'] 34)).heap.size (w.alloc (.cells #[.int .i64 x.op, .int .i64 x.a, .int .i64 x.b, .int .i64 x.c, .int .i64 x.at'] 34)) w1 →
      ∀ W, W = (w1.alloc (.cells Z53 77)).setCells w1.heap.size 0 TL → W.cell? ⟨w.heap.size, 0, none⟩ = some (.int .i64 x.op) ∧ W.cell? ⟨w.heap.size, 2, none⟩ = some (.int .i64 x.b) ∧ Below w.heap.size w W ∧ W.rangeAt w1.heap.size 0 TL := by
    intro w1 hw1 W hW
    have hs := hw1.size
    rw [World.size_alloc] at hs
    have hh : w1.heap[w.heap.size]? = some (.cells #[.int .i64 x.op, .int .i64 x.a, .int .i64 x.b, .int .i64 x.c, .int .i64 x.at'] 34 (0, 0)) := (hw1.block _ (by simp)).trans hn
    have hh2 : (w1.alloc (.cells Z53 77)).heap[w.heap.size]? = some (.cells #[.int .i64 x.op, .int .i64 x.a, .int .i64 x.b, .int .i64 x.c, .int .i64 x.at'] 34 (0, 0)) := (Below.heap_alloc w1 _ _ (by omega)).trans hh
    subst hW
    refine ⟨?_, ?_, ?_, World.rangeAt_setCells_same _ _ 0 TL (there_new w1)⟩
    · rw [World.cell?_setCells_out w1.heap.size TL 0 _ _ (fun h _ => absurd h (by show ¬ w.heap.size = w1.heap.size; omega)), cell_of_row _ _ _ _ _ _ hh2]; rfl
    · rw [World.cell?_setCells_out w1.heap.size TL 0 _ _ (fun h _ => absurd h (by show ¬ w.heap.size = w1.heap.size; omega)), cell_of_row _ _ _ _ _ _ hh2]; rfl
    · exact bel_setCells _ (by omega) TL 0 _ (((hb1.trans (hw1.mono (by simp))).alloc (by omega) _))
  have HK := Lib.hid key
  clear key hb1 hn
  by_cases h1 : x.op < 0 ∨ 53 ≤ x.op
  · have hfin : rolesP x = [] := by unfold rolesP; rw [if_pos h1]
    rw [hfin]
    rcases h1 with h1 | h1
    · have d1 : decide (x.op < 0) = true := by simp; omega
      go_enter Tryd.func57, Tryd.ntmps57
      go_wp2_with fail
      refine (HR.out _).mono ?_
      rintro e w1 ⟨rfl, hw1⟩
      have tok : True := trivial
      go_wp2_with (first
        | (with_reducible refine wpList_alloc53 rfl rfl ?_)
        | (have _t := tok; refine wpList_store53 rfl (.tmp 3) (.tmp 4) rfl w1.heap.size (by rfl) (by rfl) (there_new w1) ?_; clear tok _t
           obtain ⟨W, hW⟩ : ∃ W, W = (w1.alloc (.cells Z53 77)).setCells w1.heap.size 0 TL := ⟨_, rfl⟩
           obtain ⟨c0, c2, hb, hr⟩ := HK.out w1 hw1 W hW
           rw [← hW]
           clear hW HK HR hw1 hr))
      all_goals
        go_ret
        exact ⟨rfl, hb⟩
    · have d1 : decide (x.op < 0) = false := by simp; omega
      have d2 : decide (53 ≤ x.op) = true := by simp; omega
      go_enter Tryd.func57, Tryd.ntmps57
      go_wp2_with fail
      refine (HR.out _).mono ?_
      rintro e w1 ⟨rfl, hw1⟩
      have tok : True := trivial
      go_wp2_with (first
        | (with_reducible refine wpList_alloc53 rfl rfl ?_)
        | (have _t := tok; refine wpList_store53 rfl (.tmp 3) (.tmp 4) rfl w1.heap.size (by rfl) (by rfl) (there_new w1) ?_; clear tok _t
           obtain ⟨W, hW⟩ : ∃ W, W = (w1.alloc (.cells Z53 77)).setCells w1.heap.size 0 TL := ⟨_, rfl⟩
           obtain ⟨c0, c2, hb, hr⟩ := HK.out w1 hw1 W hW
           rw [← hW]
           clear hW HK HR hw1 hr))
      all_goals
        go_ret
        exact ⟨rfl, hb⟩
  · have d1 : decide (x.op < 0) = false := by simp; omega
    have d2 : decide (53 ≤ x.op) = false := by simp; omega
    have k0 : 0 ≤ x.op := by omega
    have k1 : x.op < 53 := by omega
    by_cases h2 : x.op = 51 ∧ x.b = 1
    · have hfin : rolesP x = [115, 98, 115] := by unfold rolesP; rw [if_neg h1, if_pos h2]
      rw [hfin]
      have e1 : ((x.op : Int) == 51) = true := by simp [h2.1]
      have e2 : ((x.b : Int) == 1) = true := by simp [h2.2]
      clear h1 h2 hfin
      go_enter Tryd.func57, Tryd.ntmps57
      go_wp2_with fail
      refine (HR.out _).mono ?_
      rintro e w1 ⟨rfl, hw1⟩
      have tok : True := trivial
      go_wp2_with (first
        | (with_reducible refine wpList_alloc53 rfl rfl ?_)
        | (have _t := tok; refine wpList_store53 rfl (.tmp 3) (.tmp 4) rfl w1.heap.size (by rfl) (by rfl) (there_new w1) ?_; clear tok _t
           obtain ⟨W, hW⟩ : ∃ W, W = (w1.alloc (.cells Z53 77)).setCells w1.heap.size 0 TL := ⟨_, rfl⟩
           obtain ⟨c0, c2, hb, hr⟩ := HK.out w1 hw1 W hW
           rw [← hW]
           clear hW HK HR hw1 hr))
      all_goals
        go_ret
        exact ⟨rfl, hb⟩
    · have hfin : rolesP x = table.getD x.op.toNat [] := by unfold rolesP; rw [if_neg h1, if_neg h2]
      rw [hfin]
      have hT := TL_at (i := x.op.toNat) (by omega)
      generalize txt (table.getD x.op.toNat []) = s at hT ⊢
      have HT := Lib.hid hT
      by_cases h3 : x.op = 51
      · have e1 : ((x.op : Int) == 51) = true := by simp [h3]
        have e2 : ((x.b : Int) == 1) = false := by simp; omega
        clear h1 h2 hfin hT h3
        go_enter Tryd.func57, Tryd.ntmps57
        go_wp2_with fail
        refine (HR.out _).mono ?_
        rintro e w1 ⟨rfl, hw1⟩
        have tok : True := trivial
        go_wp2_with (first
          | (with_reducible refine wpList_alloc53 rfl rfl ?_)
          | (have _t := tok; refine wpList_store53 rfl (.tmp 3) (.tmp 4) rfl w1.heap.size (by rfl) (by rfl) (there_new w1) ?_; clear tok _t
             obtain ⟨W, hW⟩ : ∃ W, W = (w1.alloc (.cells Z53 77)).setCells w1.heap.size 0 TL := ⟨_, rfl⟩
             obtain ⟨c0, c2, hb, hr⟩ := HK.out w1 hw1 W hW
             rw [← hW]
             have ci : W.cell? ⟨w1.heap.size, x.op.toNat, none⟩ = some (.string s) := by have := hr x.op.toNat _ HT.out; rwa [Nat.zero_add] at this
             clear hW HK HR hw1 hr))
        all_goals
          go_ret
          exact ⟨rfl, hb⟩
      · have e1 : ((x.op : Int) == 51) = false := by simp [h3]
        clear h1 h2 hfin hT h3
        go_enter Tryd.func57, Tryd.ntmps57
        go_wp2_with fail
        refine (HR.out _).mono ?_
        rintro e w1 ⟨rfl, hw1⟩
        have tok : True := trivial
        go_wp2_with (first
          | (with_reducible refine wpList_alloc53 rfl rfl ?_)
          | (have _t := tok; refine wpList_store53 rfl (.tmp 3) (.tmp 4) rfl w1.heap.size (by rfl) (by rfl) (there_new w1) ?_; clear tok _t
             obtain ⟨W, hW⟩ : ∃ W, W = (w1.alloc (.cells Z53 77)).setCells w1.heap.size 0 TL := ⟨_, rfl⟩
             obtain ⟨c0, c2, hb, hr⟩ := HK.out w1 hw1 W hW
             rw [← hW]
             have ci : W.cell? ⟨w1.heap.size, x.op.toNat, none⟩ = some (.string s) := by have := hr x.op.toNat _ HT.out; rwa [Nat.zero_add] at this
             clear hW HK HR hw1 hr))
        all_goals
          go_ret
          exact ⟨rfl, hb⟩
end Go.Proofs.YtekfhgldebhigaaDoor
