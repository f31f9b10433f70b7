/-
  Bytes sealed (not empty).
-/
import Derived.Test.YtlkaeonedijfpaaQX
set_option linter.all false
namespace Go.Proofs.Ytlkaeonedijfpaa
open Go.RowKit C
set_option maxRecDepth 100000 in
set_option maxHeartbeats 4000000 in
theorem sealed_cons (A : Option Addr) (l : Bs) (cap : Nat) (w : World) (hl : l.length ≤ 1048576) (h0 : 0 < l.length) (hr : Row 1 (ByAt w) A l) :
    Calls Try.prog 18 #[.slice A l.length cap] w fun e w' => ∃ v, e = .returned v ∧ OwnB w.heap.size w' v (C.mark ++ l ++ sumE (sumF (C.mark ++ l))) ∧ Below w.heap.size w w' := by
  obtain ⟨i0, hi, hz0, hz1, hz2⟩ := info_parts infoB
  have hcv := conv_mark w
  have HM := Lib.hid (mark_cst w.heap.size w (Nat.le_refl _))
  obtain ⟨ad, hA, hn⟩ := news_bytes (hr.imp fun x g o q => q.below (below1 w markO)) h0
  subst hA
  have HNW := Lib.hid hn
  have HB0 := Lib.hid (below1 w markO)
  obtain ⟨d0, d1, d2, d3, hE, g0, g1, g2, g3⟩ := sumE_walk (sumF (C.mark ++ l))
  have HE := Lib.hid hE
  have hsl := (sumF (C.mark ++ l)).isLt
  obtain ⟨S, hS⟩ : ∃ S, sumF (C.mark ++ l) = S := ⟨_, rfl⟩
  rw [hS] at g0 g1 g2 g3 hsl HE
  have HSS := Lib.hid hS
  clear hr hn hE hS
  go_enter Try.func18, Try.ntmps18
  go_wp2_with (at_builtin; refine wpList_append_x _ rfl _ _ _ rfl w.heap.size i0 Try.underlying22 hi hz0 hz1 hz2 (.slice (some ⟨w.heap.size, 0, none⟩) 4 4) C.mark rfl HM.out 4 rfl ad l.length cap (l.map u8v) rfl (by simp) HNW.out (u8_one l) h0 (by unfold maxLen; omega) (by omega) (by simp) (w.heap.size + 1) (by simp) ?_; intro gg1 cap1 w3 hown1 hgr1 hat1 hlt1)
  have hlen : (C.mark ++ l).length = 4 + l.length := by rw [List.length_append]; rfl
  have own3 : OwnB w.heap.size w3 (.slice (some ⟨gg1, 0, none⟩) (4 + l.length) cap1) (C.mark ++ l) := by
    unfold OwnB; rw [hlen, List.map_append]; exact hown1
  obtain ⟨AA, kk, hAe, hc3, hm3, hr3⟩ := own3.row
  rw [hlen] at hAe
  injection hAe with e1 _ e2
  subst e1
  subst e2
  have H3 := qsum_any (some ⟨gg1, 0, none⟩) (C.mark ++ l) cap1 w3 (by omega) hr3
  rw [hlen, HSS.out] at H3
  have HQ := Lib.hid H3
  have HO3 := Lib.hid own3
  have HB3 : Hid (Below w.heap.size w w3) := Lib.hid (HB0.out.grown hgr1 (by simp) (fun k hk => by cases hk; exact Nat.le_refl _))
  obtain ⟨M, hM⟩ : ∃ M, C.mark ++ l = M := ⟨_, rfl⟩
  rw [hM] at HO3 hlen
  have HMQ := Lib.hid hM
  have HSM : Hid (sumF M = S) := Lib.hid (by rw [← hM]; exact HSS.out)
  have hb3 := HB3.out.size
  clear H3 own3 hown1 hgr1 hat1 hc3 hm3 hr3 HM HNW HSS hM hcv
  go_wp2_with fail
  refine HQ.out.mono ?_
  rintro e w4 ⟨rfl, rfl⟩
  go_wp2_with (at_builtin; refine wpList_append_lies _ rfl _ _ _ rfl w.heap.size 5 i0 _ 1 1 Try.underlying22 hi hz0 hz1 hz2 rfl (by omega) (.slice (some ⟨gg1, 0, none⟩) (4 + l.length) cap1) (4 + l.length) (M.map u8v) rfl (by have := World.ownsRow.alloc HO3.out (.cells #[u8v d0, u8v d1, u8v d2, u8v d3] 5 (0, 0)); rw [hlen] at this; exact this) ⟨w3.heap.size, 0, none⟩ 4 4 [u8v d0, u8v d1, u8v d2, u8v d3] rfl rfl (World.news_of_block (cs := #[u8v d0, u8v d1, u8v d2, u8v d3]) (t := 5) (fr := (0, 0)) (heap_alloc_new w3 _)) (by simp [Value.oneCell', u8v]) (by omega) (by unfold maxLen; omega) (by omega) (by simp; omega) (w3.heap.size + 1) (by simp) ?_; intro g5 cap5 w5 hown5 hgr5 hat5 hlt5)
  go_ret
  refine ⟨_, rfl, ?_, ?_⟩
  · rw [HMQ.out, HSM.out, HE.out]
    unfold OwnB
    rw [List.length_append, hlen, List.map_append]
    exact hown5
  · exact HB3.out.trans ((((Below.refl w.heap.size w3).alloc hb3 _).grown hgr5 (by simp; omega) (fun k hk => (HO3.out.lt k hk).1)))
theorem wpList_append_run {P : Program} (w : World) {ops : Array Oper} {rest : List Oper} {o : Oper} {a : Act} {Q : Exit → Act → World → Prop} (hgd : o.guard = none) (s x : Operand) (t : TypeId)
    (ho : o.op = .call { callee := .builtin .append, args := #[s, x], argTypes := #[t, t] }) (v u r : Value) (hs : a.eval s = v) (hx : a.eval x = u)
    (hrun : (Builtin.append_ #[t, t] o.type #[v, u]).run P w = .ok r w) (h : wpList P ops Q rest (a.put o.dst r) w) : wpList P ops Q (o :: rest) a w :=
  wpList_plain hgd fun _ hK => by
    unfold Oper.wp execOp
    simp only [ho, resolve, invoke, builtin, Sem.run_bind, Sem.run_pure, Result.andThen_ok, List.map_toArray, List.map_cons, List.map_nil, hs, hx, hrun]
    exact hK _ _ h
set_option maxRecDepth 100000 in
set_option maxHeartbeats 4000000 in
theorem sealed_nil (A : Option Addr) (cap : Nat) (w : World) :
    Calls Try.prog 18 #[.slice A 0 cap] w fun e w' => ∃ v, e = .returned v ∧ OwnB w.heap.size w' v (C.mark ++ sumE (sumF C.mark)) ∧ Below w.heap.size w w' := by
  obtain ⟨i0, hi, hz0, hz1, hz2⟩ := info_parts infoB
  have hcv := conv_mark w
  have hM := mark_cst w.heap.size w (Nat.le_refl _)
  have HM := Lib.hid hM
  have hrow : Row 1 (ByAt (w.alloc markO)) (some ⟨w.heap.size, 0, none⟩) C.mark := mark_row w
  have HQ : Hid (Calls Try.prog 13 #[.slice (some ⟨w.heap.size, 0, none⟩) 4 4] (w.alloc markO) _) := Lib.hid (qsum_any (some ⟨w.heap.size, 0, none⟩) C.mark 4 (w.alloc markO) (by decide) hrow)
  have hsz1 : i0.size = 1 := hz1
  have hrun : ∀ ty V, (Builtin.append_ #[22, 22] ty #[.slice (some ⟨w.heap.size, 0, none⟩) 4 4, .slice A 0 cap]).run Try.prog V = .ok (.slice (some ⟨w.heap.size, 0, none⟩) 4 4) V := by
    intro ty V
    cases A <;> simp [Builtin.append_, run_underlying Try.underlying22, sizeOf, typeInfo, hi, Builtin.lenOf, Builtin.firstCells, storeCells, loadCells, loadCellsFrom]
  obtain ⟨d0, d1, d2, d3, hE, g0, g1, g2, g3⟩ := sumE_walk (sumF C.mark)
  have HE := Lib.hid hE
  have hsl := (sumF C.mark).isLt
  obtain ⟨S, hS⟩ : ∃ S, sumF C.mark = S := ⟨_, rfl⟩
  rw [hS] at g0 g1 g2 g3 hsl HE HQ
  have HSM := Lib.hid hS
  have HB0 := Lib.hid (below1 w markO)
  clear hE hS hM hrow
  go_enter Try.func18, Try.ntmps18
  go_wp2_with (at_builtin; refine wpList_append_run _ rfl _ _ _ rfl (.slice (some ⟨w.heap.size, 0, none⟩) 4 4) (.slice A 0 cap) (.slice (some ⟨w.heap.size, 0, none⟩) 4 4) rfl rfl (hrun _ _) ?_)
  refine HQ.out.mono ?_
  rintro e w4 ⟨rfl, rfl⟩
  go_wp2_with (at_builtin; refine wpList_append_x _ rfl _ _ _ rfl w.heap.size i0 Try.underlying22 hi hz0 hz1 hz2 (.slice (some ⟨w.heap.size, 0, none⟩) 4 4) C.mark rfl (HM.out.alloc _) 4 rfl ⟨w.heap.size + 1, 0, none⟩ 4 4 [u8v d0, u8v d1, u8v d2, u8v d3] rfl rfl (World.news_of_block (cs := #[u8v d0, u8v d1, u8v d2, u8v d3]) (t := 5) (fr := (0, 0)) (heapB w markO _)) (by simp [Value.oneCell', u8v]) (by omega) (by unfold maxLen; omega) (by omega) (by simp; omega) (w.heap.size + 1 + 1) (by simp) ?_; intro g5 cap5 w5 hown5 hgr5 hat5 hlt5)
  go_ret
  refine ⟨_, rfl, ?_, ?_⟩
  · rw [HSM.out, HE.out]
    unfold OwnB
    rw [List.length_append, List.map_append]
    exact hown5
  · exact (below2 w markO _).grown hgr5 (by simp; omega) (fun k hk => by cases hk; exact Nat.le_refl _)
theorem sealed_any (A : Option Addr) (l : Bs) (cap : Nat) (w : World) (hl : l.length ≤ 1048576) (hr : Row 1 (ByAt w) A l) :
    Calls Try.prog 18 #[.slice A l.length cap] w fun e w' => ∃ v, e = .returned v ∧ OwnB w.heap.size w' v (C.mark ++ l ++ sumE (sumF (C.mark ++ l))) ∧ Below w.heap.size w w' := by
  by_cases h0 : 0 < l.length
  · exact sealed_cons A l cap w hl h0 hr
  · obtain rfl : l = [] := List.eq_nil_of_length_eq_zero (by omega)
    rw [List.append_nil]
    exact sealed_nil A cap w
end Go.Proofs.Ytlkaeonedijfpaa
