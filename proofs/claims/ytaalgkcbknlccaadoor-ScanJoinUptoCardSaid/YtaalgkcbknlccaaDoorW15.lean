/-
  The walk of slices.DeleteFunc at tokens.
-/
import Derived.Test.YtaalgkcbknlccaaDoorW14
import Derived.Laws.CopyRow
namespace Go.Proofs.YtaalgkcbknlccaaDoor
open Go.RowKit M

theorem cells_cons (t : Tok) (l : List Tok) : cells (t :: l) = .int .i64 (t.k : Int) :: .string ⟨t.t.toArray⟩ :: .int .i64 (t.a : Int) :: cells l := by simp [cells, cell1]
theorem cells_set (l : List Tok) (i : Nat) (t : Tok) (h : i < l.length) :
    cells (l.set i t) = (((cells l).set (i * 3) (.int .i64 (t.k : Int))).set (i * 3 + 1) (.string ⟨t.t.toArray⟩)).set (i * 3 + 2) (.int .i64 (t.a : Int)) := by
  induction l generalizing i with
  | nil => simp at h
  | cons x l ih =>
    cases i with
    | zero => simp [cells_cons]
    | succ i =>
      have := ih i (by simpa using h)
      have e2 : (i + 1) * 3 = i * 3 + 3 := by omega
      rw [List.set_cons_succ, cells_cons, cells_cons, this, e2]
      simp
theorem cells_take (l : List Tok) (i : Nat) : cells (l.take i) = (cells l).take (i * 3) := by
  induction l generalizing i with
  | nil => simp [cells]
  | cons x l ih =>
    cases i with
    | zero => simp [cells]
    | succ i =>
      have e2 : (i + 1) * 3 = i * 3 + 3 := by omega
      rw [List.take_succ_cons, cells_cons, cells_cons, ih, e2]
      simp

/-- Block g is a row of tokens that begins with L. -/
def Own3 (w : World) (g cap n : Nat) (L : List Tok) : Prop :=
  ∃ cur, w.heap[g]? = some (.cells cur 33 (0, 0)) ∧ cur.size = cap * 3 ∧ cur.toList.take (n * 3) = cells L ∧ L.length = n ∧ n ≤ cap ∧ cap ≤ maxLen
theorem own3_of {w : World} {base g n cap : Nat} {l : List Tok} (h : w.ownsRow base 33 3 (.slice (some ⟨g, 0, none⟩) n cap) n (cells l)) : Own3 w g cap n l ∧ base ≤ g := by
  obtain ⟨h1, ⟨h2, _⟩ | ⟨g', cap', cur, hv, hb, hg, hn, hm, hs, ht⟩⟩ := h
  · cases h2
  · injection hv with e1 e2 e3
    injection e1 with e1
    injection e1 with e1
    subst e1 e3
    exact ⟨⟨cur, hg, hs, ht, by rw [cells_length] at h1; omega, hn, hm⟩, hb⟩
theorem Own3.own {w : World} {base g n cap : Nat} {l : List Tok} (h : Own3 w g cap n l) (hb : base ≤ g) : w.ownsRow base 33 3 (.slice (some ⟨g, 0, none⟩) n cap) n (cells l) := by
  obtain ⟨cur, h1, h2, h3, h4, h5, h6⟩ := h
  exact ⟨by rw [cells_length, h4], .inr ⟨g, cap, cur, rfl, hb, h1, h5, h6, h2, h3⟩⟩
theorem Own3.lies {w : World} {g n cap : Nat} {l : List Tok} (h : Own3 w g cap n l) : Lies w g l := lies_of (h.own (Nat.zero_le _))
theorem Own3.lt {w : World} {g n cap : Nat} {l : List Tok} (h : Own3 w g cap n l) : g < w.heap.size := by
  obtain ⟨cur, h1, _⟩ := h
  exact (Array.getElem?_eq_some_iff.1 h1).1
theorem Own3.block {w w' : World} {g n cap : Nat} {l : List Tok} (h : Own3 w g cap n l) (hb : w'.heap[g]? = w.heap[g]?) : Own3 w' g cap n l := by
  obtain ⟨cur, h1, h2⟩ := h
  exact ⟨cur, hb.trans h1, h2⟩
theorem Own3.free {w : World} {g n cap : Nat} {l : List Tok} (h : Own3 w g cap n l) (i : Nat) : w.frozen? ⟨g, i, none⟩ = false := by
  obtain ⟨cur, h1, _⟩ := h
  simp [World.frozen?, h1]
theorem Own3.set_ {w : World} {g n cap i : Nat} {l : List Tok} (h : Own3 w g cap n l) (hi : i < n) (t : Tok) :
    Own3 (((w.setCell ⟨g, i * 3, none⟩ (.int .i64 (t.k : Int))).setCell ⟨g, i * 3 + 1, none⟩ (.string ⟨t.t.toArray⟩)).setCell ⟨g, i * 3 + 2, none⟩ (.int .i64 (t.a : Int))) g cap n (l.set i t) := by
  obtain ⟨cur, h1, h2, h3, h4, h5, h6⟩ := h
  refine ⟨((cur.setIfInBounds (i * 3) (.int .i64 (t.k : Int))).setIfInBounds (i * 3 + 1) (.string ⟨t.t.toArray⟩)).setIfInBounds (i * 3 + 2) (.int .i64 (t.a : Int)), ?_, by simpa using h2, ?_, by simpa using h4, h5, h6⟩
  · simp [World.setCell, Array.getElem?_modify, h1]
  · rw [cells_set l i t (by omega), ← h3]
    simp [List.take_set]
theorem Own3.cut {w : World} {g n cap i : Nat} {l : List Tok} (h : Own3 w g cap n l) (hi : i ≤ n) : Own3 w g cap i (l.take i) := by
  obtain ⟨cur, h1, h2, h3, h4, h5, h6⟩ := h
  refine ⟨cur, h1, h2, ?_, by simp; omega, by omega, h6⟩
  rw [cells_take, ← h3, List.take_take]
  congr 1; omega

theorem zero33 (w : World) : (zeroValue 33).run Tryd.prog w = .ok (.agg #[.int .i64 0, .string ⟨#[]⟩, .int .i64 0]) w := by kernel_rfl

/-- clear behind place i. -/
theorem run_clear3 (w : World) (ty : TypeId) (g n cap i c : Nat) (l : List Tok) (h : Own3 w g cap n l) (hi : i < n) :
    ∃ w', (Builtin.clear_ #[23] ty #[.slice (some ⟨g, i * 3, none⟩) (n - i) c]).run Tryd.prog w = .ok (.tuple #[]) w' ∧ Own3 w' g cap i (l.take i) ∧ w.grownBy w' (some g) := by
  obtain ⟨cur, h1, h2, h3, h4, h5, h6⟩ := h
  let zs : List Value := (Builtin.zeroCells (Value.agg #[.int .i64 0, .string ⟨#[]⟩, .int .i64 0]).cells (n - i)).toList
  have hzl : zs.length = (n - i) * 3 := by
    show (Builtin.zeroCells _ _).toList.length = _
    rw [Array.length_toList, size_zeroCells]; rfl
  have hz1 : ∀ v ∈ zs, v.oneCell' = true := by
    intro v hv
    have : v ∈ (Builtin.zeroCells (Value.agg #[.int .i64 0, .string ⟨#[]⟩, .int .i64 0]).cells (n - i)) := by simpa [zs] using hv
    simp [Builtin.zeroCells] at this
    obtain ⟨j, hj, rfl⟩ := this
    have h3 : j % 3 = 0 ∨ j % 3 = 1 ∨ j % 3 = 2 := by omega
    simp only [Value.cells]
    rcases h3 with h3 | h3 | h3 <;> simp [h3, Value.oneCell']
  have hst := run_storeCells_at Tryd.prog g (i * 3) 33 zs 0 cur w h1 (by rw [hzl]; have := Nat.mul_le_mul_right 3 h5; omega) hz1
  simp only [Nat.add_zero] at hst
  have hrun : (Builtin.clear_ #[23] ty #[.slice (some ⟨g, i * 3, none⟩) (n - i) c]).run Tryd.prog w = .ok (.tuple #[]) (w.setRow g (cur.toList.take (i * 3) ++ zs ++ cur.toList.drop (i * 3 + zs.length)).toArray) := by
    obtain ⟨m, hm⟩ : ∃ m, n - i = m + 1 := ⟨n - i - 1, by omega⟩
    rw [hm]
    rw [show zs = (Builtin.zeroCells (Value.agg #[.int .i64 0, .string ⟨#[]⟩, .int .i64 0]).cells (m + 1)).toList from by rw [← hm]] at hst ⊢
    simp [Builtin.clear_, run_underlying Tryd.underlying23, hst]
  refine ⟨_, hrun, ⟨_, setRow_heap w g cur _ 33 (0, 0) h1, ?_, ?_, by simp; omega, by omega, h6⟩, ?_⟩
  · simp [hzl]
    have := Nat.mul_le_mul_right 3 h5
    omega
  · rw [cells_take, ← h3, List.take_take]
    have e : min (i * 3) (n * 3) = i * 3 := by omega
    rw [e]
    simp only [List.append_assoc]
    rw [List.take_append_of_le_length (by simp; have := Nat.mul_le_mul_right 3 h5; omega), List.take_take, Nat.min_self]
  · exact ⟨rfl, rfl, rfl, by simp, fun k hk hne => by
      simp only [World.setRow]
      rw [Array.getElem?_modify, if_neg (by intro e; exact hne (by rw [e]))]⟩

theorem filt_snoc (q : Tok → Bool) (l : List Tok) (j : Nat) (h : j < l.length) : (l.take (j + 1)).filter q = (l.take j).filter q ++ (if q l[j] then [l[j]] else []) := by
  rw [List.take_succ_eq_append_getElem h, List.filter_append]
  congr 1
  simp [List.filter_cons]

/-- What a call of DeleteFunc leaves. -/
def Cut (w : World) (g : Nat) (l : List Tok) (e : Ending) (w' : World) : Prop :=
  ∃ cap, e = .returned (.slice (some ⟨g, 0, none⟩) l.length cap) ∧ Own3 w' g cap l.length l ∧ w.grownBy w' (some g)

theorem getD_take {L l : List Tok} {j : Nat} (hd : L.drop j = l.drop j) (h1 : j < L.length) (h2 : j < l.length) : L[j] = l[j] := by
  have e1 := List.drop_eq_getElem_cons h1
  have e2 := List.drop_eq_getElem_cons h2
  rw [e1, e2] at hd
  exact (List.cons.inj hd).1

set_option maxRecDepth 100000 in
set_option maxHeartbeats 1000000 in
theorem delete_none_24 (p : Nat → Bool) (hp : Pred 24 p) (g cap : Nat) (l : List Tok) (w : World) (hl : l.length ≤ 20000) (h : Own3 w g cap l.length l) (hno : ∀ i (h : i < l.length), p l[i].k = false) :
    Calls Tryd.prog 23 #[.slice (some ⟨g, 0, none⟩) l.length cap, .func (.func 24) #[] #[]] w (Cut w g l) := by
  have H := Lib.hid h
  have HN := Lib.hid hno
  clear hno h
  go_enter Tryd.func23, Tryd.ntmps23
  go_wp2_with fail
  refine (index_none_24 p hp g cap l _ hl H.out.lt H.out.lies HN.out).mono ?_
  rintro e w2 ⟨rfl, hb2⟩
  go_wp2
  go_ret
  exact ⟨cap, rfl, H.out.block (hb2.block g H.out.lt), ⟨hb2.os, hb2.tape, hb2.output, hb2.size, fun k hk _ => hb2.block k hk⟩⟩

set_option maxRecDepth 100000 in
set_option maxHeartbeats 2000000 in
theorem delete_some_24 (p : Nat → Bool) (hp : Pred 24 p) (g cap i0 : Nat) (l : List Tok) (w : World) (hl : l.length ≤ 20000) (h : Own3 w g cap l.length l) (hi0 : i0 < l.length) (hno : ∀ i (h : i < l.length), i < i0 → p l[i].k = false) (hyes : p l[i0].k = true) :
    Calls Tryd.prog 23 #[.slice (some ⟨g, 0, none⟩) l.length cap, .func (.func 24) #[] #[]] w (Cut w g (l.filter fun t => !p t.k)) := by
  have H := Lib.hid h
  have HP := Lib.hid hp
  have HN := Lib.hid hno
  have HY := Lib.hid hyes
  have hcap : l.length ≤ cap := by obtain ⟨_, _, _, _, _, hc, _⟩ := h; exact hc
  clear hno h hyes hp
  have hm1 : ((i0 : Int) == -1) = false := by simp
  have H0 : Hid ((l.take (i0 + 1)).filter (fun t => !p t.k) = l.take i0) := by
    show (l.take (i0 + 1)).filter (fun t => !p t.k) = l.take i0
    rw [filt_snoc _ l i0 hi0, HY.out]
    simp
    intro a ha
    obtain ⟨j, hj, rfl⟩ := List.mem_iff_getElem.1 ha
    simp at hj
    rw [List.getElem_take]
    exact HN.out j (by omega) (by omega)
  go_enter Tryd.func23, Tryd.ntmps23
  go_wp2_with fail
  refine (index_some_24 p HP.out g cap i0 l _ hl H.out.lt H.out.lies hi0 HN.out HY.out).mono ?_
  rintro e w2 ⟨rfl, hb2⟩
  have G0 : Hid (w.grownBy w2 (some g)) := ⟨hb2.os, hb2.tape, hb2.output, hb2.size, fun k hk _ => hb2.block k hk⟩
  have O0 := Lib.hid (H.out.block (hb2.block g H.out.lt))
  clear hb2
  go_wp2_with fail
  go_loopw [5, 6] (fun a b wr => ∃ (i j : Nat) (L : List Tok), i < j ∧ j ≤ l.length ∧ a = .int .i64 i ∧ b = .int .i64 j ∧ Own3 wr g cap l.length L ∧ L.take i = (l.take j).filter (fun t => !p t.k) ∧ L.drop j = l.drop j ∧ w.grownBy wr (some g)) (fun _ b _ => l.length - (intOf b).toNat)
  case atStart => exact ⟨i0, i0 + 1, l, by omega, by omega, rfl, by go_num, O0.out, H0.out.symm, rfl, G0.out⟩
  case round =>
    obtain ⟨i, j, L, hij, hj, rfl, rfl, ho, ht, hd, hg⟩ := hrel
    have HO := Lib.hid ho
    have HT := Lib.hid ht
    have HD := Lib.hid hd
    have HG := Lib.hid hg
    have hLl : L.length = l.length := by obtain ⟨_, _, _, _, hc, _⟩ := ho; exact hc
    have hglt := ho.lt
    clear ho ht hd hg O0 G0
    by_cases hjl : j < l.length
    · have hjL : j < L.length := by omega
      have hiL : i < L.length := by omega
      have hj1 : (j : Int) < (l.length : Int) := by omega
      have hi1 : (i : Int) < (l.length : Int) := by omega
      obtain ⟨c0, c1, c2⟩ := HO.out.lies j hjL
      have HE := Lib.hid (getD_take HD.out hjL hjl)
      generalize hlt : L[j] = t at *
      cases hq : p t.k
      · go_wp2_with fail
        refine (HP.out _ _ _ _).mono ?_
        rintro e w3 ⟨rfl, hb3⟩
        rw [hq]
        have hsz := hb3.size
        have O3 := Lib.hid ((HO.out.block (w' := wr.alloc (.cells #[.int .i64 (t.k : Int), .string ⟨t.t.toArray⟩, .int .i64 (t.a : Int)] 33)) (Below.heap_alloc _ _ _ hglt)).block (hb3.block g (by simp; omega)))
        have B3 := Lib.hid (show w3.heap[wr.heap.size]? = _ from (hb3.block _ (by simp)).trans (heap_alloc_new wr _))
        have G3 : Hid (w.grownBy w3 (some g)) := only_below (only_alloc HG.out _) hb3 (by have := HG.out.size; simp; omega)
        obtain ⟨d0, d1, d2⟩ := cell3 B3.out
        obtain ⟨k0, k1, k2⟩ := O3.out.lies i hiL
        have f0 := O3.out.free (i * 3)
        have f1 := O3.out.free (i * 3 + 1)
        have f2 := O3.out.free (i * 3 + 2)
        have hq2 := Lib.hid hq
        have hlt2 := Lib.hid hlt
        clear hb3 c0 c1 c2 hq hlt
        go_wp2_with fail
        have O4 := Lib.hid (O3.out.set_ (i := i) (by omega) t)
        have G4 := Lib.hid (only_set (p := ⟨g, i * 3 + 2, none⟩) (only_set (p := ⟨g, i * 3 + 1, none⟩) (only_set (p := ⟨g, i * 3, none⟩) G3.out (.inl rfl) (.int .i64 (t.k : Int))) (.inl rfl) (.string ⟨t.t.toArray⟩)) (.inl rfl) (.int .i64 (t.a : Int)))
        go_roundw
        case rel =>
          refine ⟨i + 1, j + 1, L.set i t, by omega, by omega, by go_num, by go_num, O4.out, ?_, ?_, G4.out⟩
          · rw [filt_snoc _ l j hjl, ← HE.out, hq2.out, ← HT.out]
            simp
            rw [List.take_succ_eq_append_getElem (by simp; omega), List.take_set_of_le (by omega)]
            simp
          · rw [List.drop_set, if_pos (by omega)]
            have := congrArg (List.drop 1) HD.out
            rw [List.drop_drop, List.drop_drop] at this
            exact this
        case measure => simp [intOf]; omega
      · go_wp2_with fail
        refine (HP.out _ _ _ _).mono ?_
        rintro e w3 ⟨rfl, hb3⟩
        rw [hq]
        have O3 := Lib.hid ((HO.out.block (w' := wr.alloc (.cells #[.int .i64 (t.k : Int), .string ⟨t.t.toArray⟩, .int .i64 (t.a : Int)] 33)) (Below.heap_alloc _ _ _ hglt)).block (hb3.block g (by simp; omega)))
        have G3 : Hid (w.grownBy w3 (some g)) := only_below (only_alloc HG.out _) hb3 (by have := HG.out.size; simp; omega)
        have hq2 := Lib.hid hq
        have hlt2 := Lib.hid hlt
        clear hb3 c0 c1 c2 hq hlt
        go_wp2_with fail
        go_roundw
        case rel =>
          refine ⟨i, j + 1, L, by omega, by omega, rfl, by go_num, O3.out, ?_, ?_, G3.out⟩
          · rw [filt_snoc _ l j hjl, ← HE.out, hq2.out, ← HT.out]
            simp
          · have := congrArg (List.drop 1) HD.out
            rw [List.drop_drop, List.drop_drop] at this
            exact this
        case measure => simp [intOf]; omega
    · obtain rfl : j = l.length := by omega
      have hd : decide ((l.length : Int) < (l.length : Int)) = false := by simp
      have hi1 : (0 : Int) ≤ (i : Int) := by omega
      have hi2 : (i : Int) ≤ (l.length : Int) := by omega
      have hi3 : (i : Int) ≤ (cap : Int) := by omega
      have hne : cap ≠ i := by omega
      have hne2 : ¬ cap - i = 0 := by omega
      obtain ⟨w5, hrun, O5, G5⟩ := run_clear3 wr 0 g l.length cap i (cap - i) L HO.out (by omega)
      have HO5 := Lib.hid O5
      have HG5 := Lib.hid G5
      clear O5 G5
      go_wp2
      go_ret
      have hf : L.take i = l.filter (fun t => !p t.k) := by rw [HT.out, List.take_length]
      have hlen : (l.filter (fun t => !p t.k)).length = i := by rw [← hf]; simp; omega
      have hO6 : Own3 w5 g cap (l.filter (fun t => !p t.k)).length (l.filter (fun t => !p t.k)) := by rw [hlen, ← hf]; exact HO5.out
      exact ⟨cap, congrArg (fun n => Ending.returned (.slice (some ⟨g, 0, none⟩) n cap)) hlen.symm, hO6, only_trans HG.out HG5.out⟩

set_option maxRecDepth 100000 in
set_option maxHeartbeats 1000000 in
theorem delete_none_26 (p : Nat → Bool) (hp : Pred 26 p) (g cap : Nat) (l : List Tok) (w : World) (hl : l.length ≤ 20000) (h : Own3 w g cap l.length l) (hno : ∀ i (h : i < l.length), p l[i].k = false) :
    Calls Tryd.prog 23 #[.slice (some ⟨g, 0, none⟩) l.length cap, .func (.func 26) #[] #[]] w (Cut w g l) := by
  have H := Lib.hid h
  have HN := Lib.hid hno
  clear hno h
  go_enter Tryd.func23, Tryd.ntmps23
  go_wp2_with fail
  refine (index_none_26 p hp g cap l _ hl H.out.lt H.out.lies HN.out).mono ?_
  rintro e w2 ⟨rfl, hb2⟩
  go_wp2
  go_ret
  exact ⟨cap, rfl, H.out.block (hb2.block g H.out.lt), ⟨hb2.os, hb2.tape, hb2.output, hb2.size, fun k hk _ => hb2.block k hk⟩⟩

set_option maxRecDepth 100000 in
set_option maxHeartbeats 2000000 in
theorem delete_some_26 (p : Nat → Bool) (hp : Pred 26 p) (g cap i0 : Nat) (l : List Tok) (w : World) (hl : l.length ≤ 20000) (h : Own3 w g cap l.length l) (hi0 : i0 < l.length) (hno : ∀ i (h : i < l.length), i < i0 → p l[i].k = false) (hyes : p l[i0].k = true) :
    Calls Tryd.prog 23 #[.slice (some ⟨g, 0, none⟩) l.length cap, .func (.func 26) #[] #[]] w (Cut w g (l.filter fun t => !p t.k)) := by
  have H := Lib.hid h
  have HP := Lib.hid hp
  have HN := Lib.hid hno
  have HY := Lib.hid hyes
  have hcap : l.length ≤ cap := by obtain ⟨_, _, _, _, _, hc, _⟩ := h; exact hc
  clear hno h hyes hp
  have hm1 : ((i0 : Int) == -1) = false := by simp
  have H0 : Hid ((l.take (i0 + 1)).filter (fun t => !p t.k) = l.take i0) := by
    show (l.take (i0 + 1)).filter (fun t => !p t.k) = l.take i0
    rw [filt_snoc _ l i0 hi0, HY.out]
    simp
    intro a ha
    obtain ⟨j, hj, rfl⟩ := List.mem_iff_getElem.1 ha
    simp at hj
    rw [List.getElem_take]
    exact HN.out j (by omega) (by omega)
  go_enter Tryd.func23, Tryd.ntmps23
  go_wp2_with fail
  refine (index_some_26 p HP.out g cap i0 l _ hl H.out.lt H.out.lies hi0 HN.out HY.out).mono ?_
  rintro e w2 ⟨rfl, hb2⟩
  have G0 : Hid (w.grownBy w2 (some g)) := ⟨hb2.os, hb2.tape, hb2.output, hb2.size, fun k hk _ => hb2.block k hk⟩
  have O0 := Lib.hid (H.out.block (hb2.block g H.out.lt))
  clear hb2
  go_wp2_with fail
  go_loopw [5, 6] (fun a b wr => ∃ (i j : Nat) (L : List Tok), i < j ∧ j ≤ l.length ∧ a = .int .i64 i ∧ b = .int .i64 j ∧ Own3 wr g cap l.length L ∧ L.take i = (l.take j).filter (fun t => !p t.k) ∧ L.drop j = l.drop j ∧ w.grownBy wr (some g)) (fun _ b _ => l.length - (intOf b).toNat)
  case atStart => exact ⟨i0, i0 + 1, l, by omega, by omega, rfl, by go_num, O0.out, H0.out.symm, rfl, G0.out⟩
  case round =>
    obtain ⟨i, j, L, hij, hj, rfl, rfl, ho, ht, hd, hg⟩ := hrel
    have HO := Lib.hid ho
    have HT := Lib.hid ht
    have HD := Lib.hid hd
    have HG := Lib.hid hg
    have hLl : L.length = l.length := by obtain ⟨_, _, _, _, hc, _⟩ := ho; exact hc
    have hglt := ho.lt
    clear ho ht hd hg O0 G0
    by_cases hjl : j < l.length
    · have hjL : j < L.length := by omega
      have hiL : i < L.length := by omega
      have hj1 : (j : Int) < (l.length : Int) := by omega
      have hi1 : (i : Int) < (l.length : Int) := by omega
      obtain ⟨c0, c1, c2⟩ := HO.out.lies j hjL
      have HE := Lib.hid (getD_take HD.out hjL hjl)
      generalize hlt : L[j] = t at *
      cases hq : p t.k
      · go_wp2_with fail
        refine (HP.out _ _ _ _).mono ?_
        rintro e w3 ⟨rfl, hb3⟩
        rw [hq]
        have hsz := hb3.size
        have O3 := Lib.hid ((HO.out.block (w' := wr.alloc (.cells #[.int .i64 (t.k : Int), .string ⟨t.t.toArray⟩, .int .i64 (t.a : Int)] 33)) (Below.heap_alloc _ _ _ hglt)).block (hb3.block g (by simp; omega)))
        have B3 := Lib.hid (show w3.heap[wr.heap.size]? = _ from (hb3.block _ (by simp)).trans (heap_alloc_new wr _))
        have G3 : Hid (w.grownBy w3 (some g)) := only_below (only_alloc HG.out _) hb3 (by have := HG.out.size; simp; omega)
        obtain ⟨d0, d1, d2⟩ := cell3 B3.out
        obtain ⟨k0, k1, k2⟩ := O3.out.lies i hiL
        have f0 := O3.out.free (i * 3)
        have f1 := O3.out.free (i * 3 + 1)
        have f2 := O3.out.free (i * 3 + 2)
        have hq2 := Lib.hid hq
        have hlt2 := Lib.hid hlt
        clear hb3 c0 c1 c2 hq hlt
        go_wp2_with fail
        have O4 := Lib.hid (O3.out.set_ (i := i) (by omega) t)
        have G4 := Lib.hid (only_set (p := ⟨g, i * 3 + 2, none⟩) (only_set (p := ⟨g, i * 3 + 1, none⟩) (only_set (p := ⟨g, i * 3, none⟩) G3.out (.inl rfl) (.int .i64 (t.k : Int))) (.inl rfl) (.string ⟨t.t.toArray⟩)) (.inl rfl) (.int .i64 (t.a : Int)))
        go_roundw
        case rel =>
          refine ⟨i + 1, j + 1, L.set i t, by omega, by omega, by go_num, by go_num, O4.out, ?_, ?_, G4.out⟩
          · rw [filt_snoc _ l j hjl, ← HE.out, hq2.out, ← HT.out]
            simp
            rw [List.take_succ_eq_append_getElem (by simp; omega), List.take_set_of_le (by omega)]
            simp
          · rw [List.drop_set, if_pos (by omega)]
            have := congrArg (List.drop 1) HD.out
            rw [List.drop_drop, List.drop_drop] at this
            exact this
        case measure => simp [intOf]; omega
      · go_wp2_with fail
        refine (HP.out _ _ _ _).mono ?_
        rintro e w3 ⟨rfl, hb3⟩
        rw [hq]
        have O3 := Lib.hid ((HO.out.block (w' := wr.alloc (.cells #[.int .i64 (t.k : Int), .string ⟨t.t.toArray⟩, .int .i64 (t.a : Int)] 33)) (Below.heap_alloc _ _ _ hglt)).block (hb3.block g (by simp; omega)))
        have G3 : Hid (w.grownBy w3 (some g)) := only_below (only_alloc HG.out _) hb3 (by have := HG.out.size; simp; omega)
        have hq2 := Lib.hid hq
        have hlt2 := Lib.hid hlt
        clear hb3 c0 c1 c2 hq hlt
        go_wp2_with fail
        go_roundw
        case rel =>
          refine ⟨i, j + 1, L, by omega, by omega, rfl, by go_num, O3.out, ?_, ?_, G3.out⟩
          · rw [filt_snoc _ l j hjl, ← HE.out, hq2.out, ← HT.out]
            simp
          · have := congrArg (List.drop 1) HD.out
            rw [List.drop_drop, List.drop_drop] at this
            exact this
        case measure => simp [intOf]; omega
    · obtain rfl : j = l.length := by omega
      have hd : decide ((l.length : Int) < (l.length : Int)) = false := by simp
      have hi1 : (0 : Int) ≤ (i : Int) := by omega
      have hi2 : (i : Int) ≤ (l.length : Int) := by omega
      have hi3 : (i : Int) ≤ (cap : Int) := by omega
      have hne : cap ≠ i := by omega
      have hne2 : ¬ cap - i = 0 := by omega
      obtain ⟨w5, hrun, O5, G5⟩ := run_clear3 wr 0 g l.length cap i (cap - i) L HO.out (by omega)
      have HO5 := Lib.hid O5
      have HG5 := Lib.hid G5
      clear O5 G5
      go_wp2
      go_ret
      have hf : L.take i = l.filter (fun t => !p t.k) := by rw [HT.out, List.take_length]
      have hlen : (l.filter (fun t => !p t.k)).length = i := by rw [← hf]; simp; omega
      have hO6 : Own3 w5 g cap (l.filter (fun t => !p t.k)).length (l.filter (fun t => !p t.k)) := by rw [hlen, ← hf]; exact HO5.out
      exact ⟨cap, congrArg (fun n => Ending.returned (.slice (some ⟨g, 0, none⟩) n cap)) hlen.symm, hO6, only_trans HG.out HG5.out⟩

set_option maxRecDepth 100000 in
theorem index_nil (A : Option Addr) (cap : Nat) (F : Value) (w : World) : Calls Tryd.prog 32 #[.slice A 0 cap, F] w fun e w' => e = .returned (.int .i64 (-1)) ∧ w = w' := by
  go_enter Tryd.func32, Tryd.ntmps32
  go_wp2
  go_loopw [8] (fun i wr => i = .int .i64 0 ∧ w = wr) (fun _ _ => 0)
  case atStart => exact ⟨rfl, rfl⟩
  case round =>
    obtain ⟨rfl, rfl⟩ := hrel
    go_wp2
    go_ret
    exact ⟨rfl, rfl⟩
set_option maxRecDepth 100000 in
theorem delete_nil (A : Option Addr) (cap : Nat) (F : Value) (w : World) : Calls Tryd.prog 23 #[.slice A 0 cap, F] w fun e w' => e = .returned (.slice A 0 cap) ∧ w = w' := by
  go_enter Tryd.func23, Tryd.ntmps23
  go_wp2_with fail
  refine (index_nil A cap F w).mono ?_
  rintro e w2 ⟨rfl, rfl⟩
  go_wp2
  go_ret
  exact ⟨rfl, rfl⟩

/-- DeleteFunc, at a row of the call's own. -/
def Kept (w : World) (base : Nat) (l : List Tok) (e : Ending) (w' : World) : Prop :=
  ∃ A cap, e = .returned (.slice A l.length cap) ∧ w'.ownsRow base 33 3 (.slice A l.length cap) l.length (cells l) ∧ Below base w w'
theorem delete_any (F : Nat) (p : Nat → Bool) (hF : (F = 24 ∨ F = 26)) (hp : Pred F p) (base : Nat) (A : Option Addr) (cap : Nat) (l : List Tok) (w : World) (hl : l.length ≤ 20000) (h : w.ownsRow base 33 3 (.slice A l.length cap) l.length (cells l)) (hb : base ≤ w.heap.size) :
    Calls Tryd.prog 23 #[.slice A l.length cap, .func (.func F) #[] #[]] w (Kept w base (l.filter fun t => !p t.k)) := by
  by_cases h0 : l.length = 0
  · obtain rfl : l = [] := List.length_eq_zero_iff.1 h0
    exact (delete_nil A cap _ w).mono fun e w' ⟨he, hw⟩ => ⟨A, cap, he, by rw [← hw]; exact h, by rw [← hw]; exact Below.refl _ _⟩
  · obtain ⟨g, c, hv, hbg, hlt⟩ := h.form (by omega)
    injection hv with e1 e2 e3
    subst e1 e3
    obtain ⟨O, hbase⟩ := own3_of h
    have fin : ∀ l' e w', Cut w g l' e w' → Kept w base l' e w' := fun l' e w' ⟨c', he, ho, hg⟩ => ⟨_, c', he, ho.own hbase, (Below.refl _ _).grown hg hb (fun k hk => by cases hk; exact hbase)⟩
    rcases first_hit (fun i => p (l.getD i ⟨0, [], 0⟩).k) l.length with hn | ⟨j, hj, h1, h2⟩
    · have hno : ∀ i (hi : i < l.length), p l[i].k = false := fun i hi => by
        have := hn i hi
        simp only [List.getD, List.getElem?_eq_getElem hi, Option.getD_some] at this
        exact this
      have e : (l.filter fun t => !p t.k) = l := by
        rw [List.filter_eq_self]
        intro t ht
        obtain ⟨i, hi, rfl⟩ := List.mem_iff_getElem.1 ht
        simp [hno i hi]
      rw [e]
      rcases hF with rfl | rfl
      · exact (delete_none_24 p hp g cap l w hl O hno).mono fun e w' h => fin _ e w' h
      · exact (delete_none_26 p hp g cap l w hl O hno).mono fun e w' h => fin _ e w' h
    · have hno : ∀ i (hi : i < l.length), i < j → p l[i].k = false := fun i hi hij => by
        have := h2 i hij
        simp only [List.getD, List.getElem?_eq_getElem hi, Option.getD_some] at this
        exact this
      have hyes : p l[j].k = true := by
        simp only [List.getD, List.getElem?_eq_getElem hj, Option.getD_some] at h1
        exact h1
      rcases hF with rfl | rfl
      · exact (delete_some_24 p hp g cap j l w hl O hj hno hyes).mono fun e w' h => fin _ e w' h
      · exact (delete_some_26 p hp g cap j l w hl O hj hno hyes).mono fun e w' h => fin _ e w' h
end Go.Proofs.YtaalgkcbknlccaaDoor
