/-
  The walk of the specification's With.
-/
import Derived.Test.YtcjkhbggongcjaaEE
import Derived.Deep.RegionLaw
set_option linter.all false
namespace Go.Proofs.Ytcjkhbggongcjaa
open Go.RowKit C
/-- An append of nothing, as one step of a region that draws. -/
theorem step_append_same {P : Program} (w : World) {ops : Array Oper} {o : Oper} {a : Act} {K : Act → World → Prop} {Q : Exit → Act → World → Prop} {E : Prop} (hgd : o.guard = none) (s x : Operand) (t : TypeId)
    (ho : o.op = .call { callee := .builtin .append, args := #[s, x], argTypes := #[t, t] })
    (base : Nat) (e : TypeId) (i : TypeInfo) (size : Nat) (ht : P.underlying t = some (.slice e)) (hi : P.info? e = some i) (hsize : i.size = size) (v : Value) (n : Nat) (xs : List Value) (hs : a.eval s = v) (hown : w.ownsRow base e size v n xs)
    (A : Option Addr) (m c : Nat) (hm : m = 0) (hx : a.eval x = .slice A m c)
    (h : K (a.put o.dst v) w) : if Region.wanted o (yielded ops a.tmps) = true then Oper.wp P o a w K Q else E := by
  have hw : Region.wanted o (yielded ops a.tmps) = true := by simp [Region.wanted, hgd]
  rw [if_pos hw]
  subst hm
  have hrun : (Builtin.append_ #[t, t] o.type #[v, .slice A 0 c]).run P w = .ok v w := by
    subst hsize
    rcases hown.2 with ⟨rfl, rfl⟩ | ⟨g, cap, cur, rfl, _, _, hnc, _⟩
    · cases A <;> simp [Builtin.append_, run_underlying ht, sizeOf, typeInfo, hi, Builtin.lenOf, Builtin.firstCells, loadCells, loadCellsFrom]
    · cases A <;> simp [Builtin.append_, run_underlying ht, sizeOf, typeInfo, hi, Builtin.lenOf, Builtin.firstCells, hnc, storeCells, loadCells, loadCellsFrom]
  unfold Oper.wp execOp
  simp only [ho, resolve, invoke, builtin, Sem.run_bind, Sem.run_pure, Result.andThen_ok, List.map_toArray, List.map_cons, List.map_nil, hs, hx, hrun]
  exact h
theorem own_e {W : World} {B base : Nat} {t : TypeId} {size : Nat} (h : W.heap[B]? = some (.cells #[] t)) (hB : base ≤ B) : W.ownsRow base t size (.slice (some ⟨B, 0, none⟩) 0 0) 0 [] :=
  ⟨by simp, .inr ⟨B, 0, #[], rfl, hB, h, Nat.le_refl _, Nat.zero_le _, by simp, by simp⟩⟩
theorem heap2a (w : World) (o1 o2 : Obj) : ((w.alloc o1).alloc o2).heap[w.heap.size]? = some o1 := by
  have b := Below.refl (w.alloc o1).heap.size (w.alloc o1) |>.alloc (Nat.le_refl _) o2
  exact (b.block _ (by simp)).trans (heap_alloc_new w o1)
theorem addr_add (g o t : Nat) : (⟨g, o, none⟩ : Addr).add t = ⟨g, o + t, none⟩ := by unfold Addr.add; split <;> simp_all
theorem row_take {g o : Nat} {l : List Int} {w W : World} (h : ∀ i (h : i < l.length), IntAt w l[i] g (o + i * 1)) (hb : Below w.heap.size w W) (j : Nat) : ∀ t u, ((l.take j).map (Value.int .i64))[t]? = some u → W.cell? ((⟨g, o, none⟩ : Addr).add t) = some u := by
  intro t u hu
  have ht : t < l.length ∧ t < j := by
    have := (List.getElem?_eq_some_iff.1 hu).1
    simp at this; omega
  have hx := ((h t ht.1).below hb).c0
  rw [Nat.mul_one] at hx
  have : u = .int .i64 l[t] := by
    rw [List.getElem?_map, List.getElem?_take, if_pos ht.2, List.getElem?_eq_getElem ht.1] at hu
    simpa using hu.symm
  rw [this, addr_add]; exact hx
theorem row_drop {g o : Nat} {l : List Int} {w W : World} (h : ∀ i (h : i < l.length), IntAt w l[i] g (o + i * 1)) (hb : Below w.heap.size w W) (j : Nat) : ∀ t u, ((l.drop j).map (Value.int .i64))[t]? = some u → W.cell? ((⟨g, o + j, none⟩ : Addr).add t) = some u := by
  intro t u hu
  have ht : j + t < l.length := by
    have := (List.getElem?_eq_some_iff.1 hu).1
    simp at this; omega
  have hx := ((h (j + t) ht).below hb).c0
  rw [Nat.mul_one] at hx
  have : u = .int .i64 l[j + t] := by
    rw [List.getElem?_map, List.getElem?_drop, List.getElem?_eq_getElem ht] at hu
    simpa using hu.symm
  rw [this, addr_add, Nat.add_assoc]; exact hx
theorem ints_one (zs : List Int) : ∀ u ∈ zs.map (Value.int .i64), u.oneCell' = true := by
  intro u hu
  obtain ⟨z, _, rfl⟩ := List.mem_map.1 hu
  rfl
theorem news_one {W : World} {B : Nat} {n : Int} (h : W.heap[B]? = some (.cells #[.int .i64 n] 3)) : ∀ t u, ([Value.int .i64 n])[t]? = some u → W.cell? ((⟨B, 0, none⟩ : Addr).add t) = some u := by
  intro t u hu
  have ht : t = 0 := by have := (List.getElem?_eq_some_iff.1 hu).1; simpa using this
  subst ht
  simp at hu
  subst hu
  simp [Addr.add, World.cell?, h]
theorem ins_at {l : List Int} {n : Int} : ∀ {k : Nat}, k ≤ l.length → (∀ j (h : j < l.length), j < k → l[j] < n) → (∀ h : k < l.length, n < l[k]) → ins l n = l.take k ++ n :: l.drop k := by
  induction l with
  | nil => intro k hk _ _; simp at hk; subst hk; rfl
  | cons a l ih =>
    intro k hk h1 h2
    cases k with
    | zero =>
      have := h2 (by simp)
      simp at this
      unfold ins; rw [if_neg (by omega), if_neg (by omega)]; rfl
    | succ k =>
      have h0 := h1 0 (by simp) (by omega)
      simp at h0
      unfold ins; rw [if_pos h0, ih (k := k) (by simpa using hk) (fun j h hj => by have := h1 (j + 1) (by simp; omega) (by omega); simpa using this) (fun h => by have := h2 (by simp; omega); simpa using this)]
      rfl
theorem ins_in {l : List Int} {n : Int} : ∀ {k : Nat} (hk : k < l.length), (∀ j (h : j < l.length), j < k → l[j] < n) → l[k] = n → ins l n = l := by
  induction l with
  | nil => intro k hk; simp at hk
  | cons a l ih =>
    intro k hk h1 h2
    cases k with
    | zero => simp at h2; unfold ins; rw [if_neg (by omega), if_pos h2]
    | succ k =>
      have h0 := h1 0 (by simp) (by omega)
      simp at h0
      unfold ins; rw [if_pos h0, ih (k := k) (by simpa using hk) (fun j h hj => by have := h1 (j + 1) (by simp; omega) (by omega); simpa using this) (by simpa using h2)]
set_option maxRecDepth 100000 in
set_option maxHeartbeats 16000000 in
theorem with_mid (g o cap : Nat) (l : List Int) (n : Int) (k : Nat) (w : World) (hl : l.length ≤ 1000) (hc : l.length ≤ cap) (hr : ∀ i (h : i < l.length), IntAt w l[i] g (o + i * 1)) (h1 : ∀ j (h : j < l.length), j < k → l[j] < n) (hk0 : 0 < k) (hk : k < l.length) (h2 : n < l[k]) (hcm : cap ≤ maxLen) :
    Calls Try.prog 51 #[.slice (some ⟨g, o, none⟩) l.length cap, .int .i64 n] w (RetOwn (ins l n) w) := by
  have HINS : Hid (ins l n = l.take k ++ n :: l.drop k) := Lib.hid (ins_at (by omega) h1 (fun _ => h2))
  have HR := Lib.hid hr
  have H1 := Lib.hid h1
  obtain ⟨i0, hi, hz0, hz1, hz2⟩ := info_parts infoI
  unfold maxLen at hcm
  clear hr h1
  have H2 := Lib.hid h2
  clear h2
  go_enter Try.func51, Try.ntmps51
  go_wp2
  go_loop [5] (fun i => ∃ j : Nat, j ≤ k ∧ i = .int .i64 j) (fun i => k - (intOf i).toNat)
  case atStart => exact ⟨0, Nat.zero_le _, rfl⟩
  case round =>
    obtain ⟨j, hj, rfl⟩ := hrel
    by_cases hjk : j < k
    · have q0 := (HR.out j (by omega)).c0
      obtain ⟨x, hx⟩ : ∃ x, l[j]'(by omega) = x := ⟨_, rfl⟩
      rw [hx, Nat.mul_one] at q0
      have jj0 : (0 : Int) ≤ (j : Int) := by omega
      have jj1 : (j : Int) < (l.length : Int) := by omega
      have hxn := H1.out j (by omega) hjk
      rw [hx] at hxn
      have d0 : decide (x < n) = true := by simpa using hxn
      clear hxn hx
      go_wp2
      go_round
      case rel => exact ⟨j + 1, by omega, by go_num⟩
      case measure => simp [intOf]; omega
    · obtain rfl : j = k := by omega
      have q0 := (HR.out j (by omega)).c0
      obtain ⟨x, hx⟩ : ∃ x, l[j]'(by omega) = x := ⟨_, rfl⟩
      rw [hx, Nat.mul_one] at q0
      have jj0 : (0 : Int) ≤ (j : Int) := by omega
      have jj1 : (j : Int) < (l.length : Int) := by omega
      have hxn := H2.out
      rw [hx] at hxn
      have d0 : decide (x < n) = false := by simp; omega
      have d1 : ((x : Int) == n) = false := by simp; omega
      have hcj : ¬ cap = j := by omega
      have kc0 : (j : Int) ≤ (cap : Int) := by omega
      have kc1 : (l.length : Int) ≤ (cap : Int) := by omega
      have kc2 : (j : Int) ≤ (l.length : Int) := by omega
      have HX := Lib.hid hx
      clear hxn hx
      go_wp2_with fail
      go_region_law (first
        | (refine step_append_lies _ (by rfl) _ _ _ (by rfl) w.heap.size 3 i0 _ 1 8 Try.underlying33 hi hz0 hz1 hz2 rfl (by omega) (.slice (some ⟨w.heap.size, 0, none⟩) 0 0) 0 [] (by rfl) (own_e (heap_alloc_new w (.cells #[] 3)) (by omega)) ⟨g, o, none⟩ j cap ((l.take j).map (Value.int .i64)) (by rfl) (by first | (simp; done) | (simp; omega) | omega) (row_take HR.out (Below.drew (below1 w (.cells #[] 3))) j) (ints_one _) (by omega) (by unfold maxLen; omega) (by omega) (by first | (simp; done) | (simp; omega) | omega) (w.heap.size + 1) (by simp) ?_; intro g1 cap1 w4 hown1 hgrow1 hat1 hlt1; rw [Nat.zero_add, List.nil_append] at hown1; rw [Nat.zero_add]; have HB1 := Lib.hid ((Below.drew (below1 w (.cells #[] 3))).grown hgrow1 (by first | (simp; done) | (simp; omega) | omega) (by intro q hq; simp [Value.ownBlock] at hq; omega)); have HN := Lib.hid (rfl : (0 : Nat) = 0); clear hgrow1 hat1)
        | (refine step_append_lies _ (by rfl) _ _ _ (by rfl) w.heap.size 3 i0 _ 1 8 Try.underlying33 hi hz0 hz1 hz2 rfl (by omega) (.slice (some ⟨w.heap.size, 0, none⟩) 0 0) 0 [] (by rfl) (own_e (heap2a w (.cells #[] 3) (.cells #[.int .i64 n] 3)) (by omega)) ⟨g, o, none⟩ j cap ((l.take j).map (Value.int .i64)) (by rfl) (by first | (simp; done) | (simp; omega) | omega) (row_take HR.out (Below.drew (below2 w (.cells #[] 3) (.cells #[.int .i64 n] 3))) j) (ints_one _) (by omega) (by unfold maxLen; omega) (by omega) (by first | (simp; done) | (simp; omega) | omega) (w.heap.size + 2) (by simp) ?_; intro g1 cap1 w4 hown1 hgrow1 hat1 hlt1; rw [Nat.zero_add, List.nil_append] at hown1; rw [Nat.zero_add]; have HB1 := Lib.hid ((Below.drew (below2 w (.cells #[] 3) (.cells #[.int .i64 n] 3))).grown hgrow1 (by first | (simp; done) | (simp; omega) | omega) (by intro q hq; simp [Value.ownBlock] at hq; omega)); have HN := Lib.hid ((hgrow1.block (w.heap.size + 1) (by first | (simp; done) | (simp; omega) | omega) (by simp [Value.ownBlock])).trans (heap2 w (.cells #[] 3) (.cells #[.int .i64 n] 3))); clear hgrow1 hat1)
        | (refine step_append_lies _ (by rfl) _ _ _ (by rfl) w.heap.size 3 i0 _ 1 8 Try.underlying33 hi hz0 hz1 hz2 rfl (by omega) (.slice (some ⟨w.heap.size + 1, 0, none⟩) 0 0) 0 [] (by rfl) (own_e (heap2 w (.cells #[.int .i64 n] 3) (.cells #[] 3)) (by omega)) ⟨g, o, none⟩ j cap ((l.take j).map (Value.int .i64)) (by rfl) (by first | (simp; done) | (simp; omega) | omega) (row_take HR.out (Below.drew (below2 w (.cells #[.int .i64 n] 3) (.cells #[] 3))) j) (ints_one _) (by omega) (by unfold maxLen; omega) (by omega) (by first | (simp; done) | (simp; omega) | omega) (w.heap.size + 2) (by simp) ?_; intro g1 cap1 w4 hown1 hgrow1 hat1 hlt1; rw [Nat.zero_add, List.nil_append] at hown1; rw [Nat.zero_add]; have HB1 := Lib.hid ((Below.drew (below2 w (.cells #[.int .i64 n] 3) (.cells #[] 3))).grown hgrow1 (by first | (simp; done) | (simp; omega) | omega) (by intro q hq; simp [Value.ownBlock] at hq; omega)); have HN := Lib.hid ((hgrow1.block w.heap.size (by first | (simp; done) | (simp; omega) | omega) (by simp [Value.ownBlock])).trans (heap2a w (.cells #[.int .i64 n] 3) (.cells #[] 3))); clear hgrow1 hat1)
        | (have hbs := HB1.out.size; have hg1 := (hown1.lt g1 rfl).1; refine step_append_lies _ (by rfl) _ _ _ (by rfl) w.heap.size 3 i0 _ 1 8 Try.underlying33 hi hz0 hz1 hz2 rfl (by omega) (.slice (some ⟨g1, 0, none⟩) j cap1) j ((l.take j).map (Value.int .i64)) (by rfl) (hown1.alloc _) ⟨w4.heap.size, 0, none⟩ 1 1 [.int .i64 n] (by rfl) (by rfl) (news_one (heap_alloc_new w4 (.cells #[.int .i64 n] 3))) (by simp [Value.oneCell']) (by omega) (by unfold maxLen; omega) (by omega) (by first | omega | (simp; omega)) (w4.heap.size + 1) (by first | rfl | simp) ?_; intro g2 cap2 w5 hown2 hgrow2 hat2 hlt2; have HB2 := Lib.hid ((HB1.out.alloc HB1.out.size (.cells #[.int .i64 n] 3)).grown hgrow2 (by first | omega | (simp; omega)) (by intro q hq; simp [Value.ownBlock] at hq; omega)); clear hgrow2 hat2)
        | (have hbs := HB1.out.size; have hg1 := (hown1.lt g1 rfl).1; refine step_append_lies _ (by rfl) _ _ _ (by rfl) w.heap.size 3 i0 _ 1 8 Try.underlying33 hi hz0 hz1 hz2 rfl (by omega) (.slice (some ⟨g1, 0, none⟩) j cap1) j ((l.take j).map (Value.int .i64)) (by rfl) hown1 ⟨w.heap.size + 1, 0, none⟩ 1 1 [.int .i64 n] (by rfl) (by rfl) (news_one HN.out) (by simp [Value.oneCell']) (by omega) (by unfold maxLen; omega) (by omega) (by first | omega | (simp; omega)) (w4.heap.size) (by first | rfl | simp) ?_; intro g2 cap2 w5 hown2 hgrow2 hat2 hlt2; have HB2 := Lib.hid (HB1.out.grown hgrow2 (by first | omega | (simp; omega)) (by intro q hq; simp [Value.ownBlock] at hq; omega)); clear hgrow2 hat2)
        | (have hbs := HB1.out.size; have hg1 := (hown1.lt g1 rfl).1; refine step_append_lies _ (by rfl) _ _ _ (by rfl) w.heap.size 3 i0 _ 1 8 Try.underlying33 hi hz0 hz1 hz2 rfl (by omega) (.slice (some ⟨g1, 0, none⟩) j cap1) j ((l.take j).map (Value.int .i64)) (by rfl) hown1 ⟨w.heap.size, 0, none⟩ 1 1 [.int .i64 n] (by rfl) (by rfl) (news_one HN.out) (by simp [Value.oneCell']) (by omega) (by unfold maxLen; omega) (by omega) (by first | omega | (simp; omega)) (w4.heap.size) (by first | rfl | simp) ?_; intro g2 cap2 w5 hown2 hgrow2 hat2 hlt2; have HB2 := Lib.hid (HB1.out.grown hgrow2 (by first | omega | (simp; omega)) (by intro q hq; simp [Value.ownBlock] at hq; omega)); clear hgrow2 hat2)
        | (have hbs2 := HB2.out.size; have hg2 := (hown2.lt g2 rfl).1; refine step_append_lies _ (by rfl) _ _ _ (by rfl) w.heap.size 3 i0 _ 1 8 Try.underlying33 hi hz0 hz1 hz2 rfl (by omega) (.slice (some ⟨g2, 0, none⟩) (j + 1) cap2) (j + 1) ((l.take j).map (Value.int .i64) ++ [.int .i64 n]) (by rfl) hown2 ⟨g, o + j, none⟩ (l.length - j) (cap - j) ((l.drop j).map (Value.int .i64)) (by rfl) (by simp) (row_drop HR.out HB2.out j) (ints_one _) (by omega) (by unfold maxLen; omega) (by omega) (by omega) (w5.heap.size) (by rfl) ?_; intro g3 cap3 w6 hown3 hgrow3 hat3 hlt3; have HB3 := Lib.hid (HB2.out.grown hgrow3 (by omega) (by intro q hq; simp [Value.ownBlock] at hq; omega)); clear hgrow3 hat3))
      all_goals
        go_wp2
        go_ret
        refine ⟨_, rfl, ?_, HB3.out⟩
        have hfin := hown3
        rw [HINS.out]
        have e1 : (j + 1 + (l.length - j)) = (l.take j ++ n :: l.drop j).length := by first | (simp; done) | (simp; omega) | (simp [HJ0.out]; done) | (simp [HJ0.out]; omega)
        have e2 : ((l.take j).map (Value.int .i64) ++ [.int .i64 n] ++ (l.drop j).map (Value.int .i64) : List Value) = (l.take j ++ n :: l.drop j).map (Value.int .i64) := by simp
        rw [← e1, ← e2]
        exact hfin
set_option maxRecDepth 100000 in
set_option maxHeartbeats 16000000 in
theorem with_zero (g o cap : Nat) (l : List Int) (n : Int) (k : Nat) (w : World) (hl : l.length ≤ 1000) (hc : l.length ≤ cap) (hr : ∀ i (h : i < l.length), IntAt w l[i] g (o + i * 1)) (h1 : ∀ j (h : j < l.length), j < k → l[j] < n) (hk0 : k = 0) (hk : k < l.length) (h2 : n < l[k]) (hcm : cap ≤ maxLen) :
    Calls Try.prog 51 #[.slice (some ⟨g, o, none⟩) l.length cap, .int .i64 n] w (RetOwn (ins l n) w) := by
  have HINS : Hid (ins l n = l.take k ++ n :: l.drop k) := Lib.hid (ins_at (by omega) h1 (fun _ => h2))
  have HR := Lib.hid hr
  have H1 := Lib.hid h1
  obtain ⟨i0, hi, hz0, hz1, hz2⟩ := info_parts infoI
  unfold maxLen at hcm
  clear hr h1
  have H2 := Lib.hid h2
  clear h2
  go_enter Try.func51, Try.ntmps51
  go_wp2
  go_loop [5] (fun i => ∃ j : Nat, j ≤ k ∧ i = .int .i64 j) (fun i => k - (intOf i).toNat)
  case atStart => exact ⟨0, Nat.zero_le _, rfl⟩
  case round =>
    obtain ⟨j, hj, rfl⟩ := hrel
    by_cases hjk : j < k
    · have q0 := (HR.out j (by omega)).c0
      obtain ⟨x, hx⟩ : ∃ x, l[j]'(by omega) = x := ⟨_, rfl⟩
      rw [hx, Nat.mul_one] at q0
      have jj0 : (0 : Int) ≤ (j : Int) := by omega
      have jj1 : (j : Int) < (l.length : Int) := by omega
      have hxn := H1.out j (by omega) hjk
      rw [hx] at hxn
      have d0 : decide (x < n) = true := by simpa using hxn
      clear hxn hx
      go_wp2
      go_round
      case rel => exact ⟨j + 1, by omega, by go_num⟩
      case measure => simp [intOf]; omega
    · obtain rfl : j = k := by omega
      have q0 := (HR.out j (by omega)).c0
      obtain ⟨x, hx⟩ : ∃ x, l[j]'(by omega) = x := ⟨_, rfl⟩
      rw [hx, Nat.mul_one] at q0
      have jj0 : (0 : Int) ≤ (j : Int) := by omega
      have jj1 : (j : Int) < (l.length : Int) := by omega
      have hxn := H2.out
      rw [hx] at hxn
      have d0 : decide (x < n) = false := by simp; omega
      have d1 : ((x : Int) == n) = false := by simp; omega
      have hcj : ¬ cap = j := by omega
      have kc0 : (j : Int) ≤ (cap : Int) := by omega
      have kc1 : (l.length : Int) ≤ (cap : Int) := by omega
      have kc2 : (j : Int) ≤ (l.length : Int) := by omega
      have HX := Lib.hid hx
      clear hxn hx
      have HJ0 := Lib.hid hk0
      clear hk0
      go_wp2_with fail
      go_region_law (first
        | (refine step_append_same _ (by rfl) _ _ _ (by rfl) w.heap.size 3 i0 1 Try.underlying33 hi hz1 (.slice (some ⟨w.heap.size, 0, none⟩) 0 0) 0 [] (by rfl) (own_e (heap_alloc_new w (.cells #[] 3)) (by omega)) _ _ _ HJ0.out (by rfl) ?_)
        | (refine step_append_same _ (by rfl) _ _ _ (by rfl) w.heap.size 3 i0 1 Try.underlying33 hi hz1 (.slice (some ⟨w.heap.size, 0, none⟩) 0 0) 0 [] (by rfl) (own_e (heap2a w (.cells #[] 3) (.cells #[.int .i64 n] 3)) (by omega)) _ _ _ HJ0.out (by rfl) ?_)
        | (refine step_append_same _ (by rfl) _ _ _ (by rfl) w.heap.size 3 i0 1 Try.underlying33 hi hz1 (.slice (some ⟨w.heap.size + 1, 0, none⟩) 0 0) 0 [] (by rfl) (own_e (heap2 w (.cells #[.int .i64 n] 3) (.cells #[] 3)) (by omega)) _ _ _ HJ0.out (by rfl) ?_)
        | (refine step_append_lies _ (by rfl) _ _ _ (by rfl) w.heap.size 3 i0 _ 1 8 Try.underlying33 hi hz0 hz1 hz2 rfl (by omega) (.slice (some ⟨w.heap.size, 0, none⟩) 0 0) 0 [] (by rfl) (own_e (heap2a w (.cells #[] 3) (.cells #[.int .i64 n] 3)) (by omega)) ⟨w.heap.size + 1, 0, none⟩ 1 1 [.int .i64 n] (by rfl) (by rfl) (news_one (heap2 w (.cells #[] 3) (.cells #[.int .i64 n] 3))) (by simp [Value.oneCell']) (by omega) (by unfold maxLen; omega) (by omega) (by first | (simp; done) | (simp; omega) | omega) (w.heap.size + 2) (by simp) ?_; intro g2 cap2 w5 hown2 hgrow2 hat2 hlt2; have HB2 := Lib.hid ((Below.drew (below2 w (.cells #[] 3) (.cells #[.int .i64 n] 3))).grown hgrow2 (by first | omega | (simp; omega)) (by intro q hq; simp [Value.ownBlock] at hq; omega)); clear hgrow2 hat2)
        | (refine step_append_lies _ (by rfl) _ _ _ (by rfl) w.heap.size 3 i0 _ 1 8 Try.underlying33 hi hz0 hz1 hz2 rfl (by omega) (.slice (some ⟨w.heap.size + 1, 0, none⟩) 0 0) 0 [] (by rfl) (own_e (heap2 w (.cells #[.int .i64 n] 3) (.cells #[] 3)) (by omega)) ⟨w.heap.size, 0, none⟩ 1 1 [.int .i64 n] (by rfl) (by rfl) (news_one (heap2a w (.cells #[.int .i64 n] 3) (.cells #[] 3))) (by simp [Value.oneCell']) (by omega) (by unfold maxLen; omega) (by omega) (by first | (simp; done) | (simp; omega) | omega) (w.heap.size + 2) (by simp) ?_; intro g2 cap2 w5 hown2 hgrow2 hat2 hlt2; have HB2 := Lib.hid ((Below.drew (below2 w (.cells #[.int .i64 n] 3) (.cells #[] 3))).grown hgrow2 (by first | omega | (simp; omega)) (by intro q hq; simp [Value.ownBlock] at hq; omega)); clear hgrow2 hat2)
        | (have hbs2 := HB2.out.size; have hg2 := (hown2.lt g2 rfl).1; refine step_append_lies _ (by rfl) _ _ _ (by rfl) w.heap.size 3 i0 _ 1 8 Try.underlying33 hi hz0 hz1 hz2 rfl (by omega) (.slice (some ⟨g2, 0, none⟩) (0 + 1) cap2) (0 + 1) ([] ++ [.int .i64 n]) (by rfl) hown2 ⟨g, o + j, none⟩ (l.length - j) (cap - j) ((l.drop j).map (Value.int .i64)) (by rfl) (by simp) (row_drop HR.out HB2.out j) (ints_one _) (by omega) (by unfold maxLen; omega) (by omega) (by omega) (w5.heap.size) (by rfl) ?_; intro g3 cap3 w6 hown3 hgrow3 hat3 hlt3; have HB3 := Lib.hid (HB2.out.grown hgrow3 (by omega) (by intro q hq; simp [Value.ownBlock] at hq; omega)); clear hgrow3 hat3))
      all_goals
        go_wp2
        go_ret
        refine ⟨_, rfl, ?_, HB3.out⟩
        have hfin := hown3
        rw [HINS.out]
        have e1 : (0 + 1 + (l.length - j)) = (l.take j ++ n :: l.drop j).length := by first | (simp; done) | (simp; omega) | (simp [HJ0.out]; done) | (simp [HJ0.out]; omega)
        have e2 : ([] ++ [.int .i64 n] ++ (l.drop j).map (Value.int .i64) : List Value) = (l.take j ++ n :: l.drop j).map (Value.int .i64) := by simp [HJ0.out]
        rw [← e1, ← e2]
        exact hfin
set_option maxRecDepth 100000 in
set_option maxHeartbeats 16000000 in
theorem with_end (g o cap : Nat) (l : List Int) (n : Int) (k : Nat) (w : World) (hl : l.length ≤ 1000) (hc : l.length ≤ cap) (hr : ∀ i (h : i < l.length), IntAt w l[i] g (o + i * 1)) (h1 : ∀ j (h : j < l.length), j < k → l[j] < n) (hk0 : 0 < k) (hk : k = l.length) (hck : cap = k) (hcm : cap ≤ maxLen) :
    Calls Try.prog 51 #[.slice (some ⟨g, o, none⟩) l.length cap, .int .i64 n] w (RetOwn (ins l n) w) := by
  have HINS : Hid (ins l n = l.take k ++ n :: l.drop k) := Lib.hid (ins_at (by omega) h1 (fun h => absurd h (by omega)))
  have HR := Lib.hid hr
  have H1 := Lib.hid h1
  obtain ⟨i0, hi, hz0, hz1, hz2⟩ := info_parts infoI
  unfold maxLen at hcm
  clear hr h1
  go_enter Try.func51, Try.ntmps51
  go_wp2
  go_loop [5] (fun i => ∃ j : Nat, j ≤ k ∧ i = .int .i64 j) (fun i => k - (intOf i).toNat)
  case atStart => exact ⟨0, Nat.zero_le _, rfl⟩
  case round =>
    obtain ⟨j, hj, rfl⟩ := hrel
    by_cases hjk : j < k
    · have q0 := (HR.out j (by omega)).c0
      obtain ⟨x, hx⟩ : ∃ x, l[j]'(by omega) = x := ⟨_, rfl⟩
      rw [hx, Nat.mul_one] at q0
      have jj0 : (0 : Int) ≤ (j : Int) := by omega
      have jj1 : (j : Int) < (l.length : Int) := by omega
      have hxn := H1.out j (by omega) hjk
      rw [hx] at hxn
      have d0 : decide (x < n) = true := by simpa using hxn
      clear hxn hx
      go_wp2
      go_round
      case rel => exact ⟨j + 1, by omega, by go_num⟩
      case measure => simp [intOf]; omega
    · obtain rfl : j = k := by omega
      subst hk
      subst hck
      have jj0 : (0 : Int) ≤ (l.length : Int) := by omega
      have kc0 : (l.length : Int) ≤ (l.length : Int) := by omega
      have kc1 : (l.length : Int) ≤ (l.length : Int) := by omega
      have kc2 : (l.length : Int) ≤ (l.length : Int) := by omega
      have elen : l.length - l.length = 0 := by omega
      go_wp2_with fail
      go_region_law (first
        | (refine step_append_lies _ (by rfl) _ _ _ (by rfl) w.heap.size 3 i0 _ 1 8 Try.underlying33 hi hz0 hz1 hz2 rfl (by omega) (.slice (some ⟨w.heap.size, 0, none⟩) 0 0) 0 [] (by rfl) (own_e (heap_alloc_new w (.cells #[] 3)) (by omega)) ⟨g, o, none⟩ l.length l.length ((l.take l.length).map (Value.int .i64)) (by rfl) (by first | (simp; done) | (simp; omega) | omega) (row_take HR.out (Below.drew (below1 w (.cells #[] 3))) l.length) (ints_one _) (by omega) (by unfold maxLen; omega) (by omega) (by first | (simp; done) | (simp; omega) | omega) (w.heap.size + 1) (by simp) ?_; intro g1 cap1 w4 hown1 hgrow1 hat1 hlt1; rw [Nat.zero_add, List.nil_append] at hown1; rw [Nat.zero_add]; have HB1 := Lib.hid ((Below.drew (below1 w (.cells #[] 3))).grown hgrow1 (by first | (simp; done) | (simp; omega) | omega) (by intro q hq; simp [Value.ownBlock] at hq; omega)); have HN := Lib.hid (rfl : (0 : Nat) = 0); clear hgrow1 hat1)
        | (refine step_append_lies _ (by rfl) _ _ _ (by rfl) w.heap.size 3 i0 _ 1 8 Try.underlying33 hi hz0 hz1 hz2 rfl (by omega) (.slice (some ⟨w.heap.size, 0, none⟩) 0 0) 0 [] (by rfl) (own_e (heap2a w (.cells #[] 3) (.cells #[.int .i64 n] 3)) (by omega)) ⟨g, o, none⟩ l.length l.length ((l.take l.length).map (Value.int .i64)) (by rfl) (by first | (simp; done) | (simp; omega) | omega) (row_take HR.out (Below.drew (below2 w (.cells #[] 3) (.cells #[.int .i64 n] 3))) l.length) (ints_one _) (by omega) (by unfold maxLen; omega) (by omega) (by first | (simp; done) | (simp; omega) | omega) (w.heap.size + 2) (by simp) ?_; intro g1 cap1 w4 hown1 hgrow1 hat1 hlt1; rw [Nat.zero_add, List.nil_append] at hown1; rw [Nat.zero_add]; have HB1 := Lib.hid ((Below.drew (below2 w (.cells #[] 3) (.cells #[.int .i64 n] 3))).grown hgrow1 (by first | (simp; done) | (simp; omega) | omega) (by intro q hq; simp [Value.ownBlock] at hq; omega)); have HN := Lib.hid ((hgrow1.block (w.heap.size + 1) (by first | (simp; done) | (simp; omega) | omega) (by simp [Value.ownBlock])).trans (heap2 w (.cells #[] 3) (.cells #[.int .i64 n] 3))); clear hgrow1 hat1)
        | (refine step_append_lies _ (by rfl) _ _ _ (by rfl) w.heap.size 3 i0 _ 1 8 Try.underlying33 hi hz0 hz1 hz2 rfl (by omega) (.slice (some ⟨w.heap.size + 1, 0, none⟩) 0 0) 0 [] (by rfl) (own_e (heap2 w (.cells #[.int .i64 n] 3) (.cells #[] 3)) (by omega)) ⟨g, o, none⟩ l.length l.length ((l.take l.length).map (Value.int .i64)) (by rfl) (by first | (simp; done) | (simp; omega) | omega) (row_take HR.out (Below.drew (below2 w (.cells #[.int .i64 n] 3) (.cells #[] 3))) l.length) (ints_one _) (by omega) (by unfold maxLen; omega) (by omega) (by first | (simp; done) | (simp; omega) | omega) (w.heap.size + 2) (by simp) ?_; intro g1 cap1 w4 hown1 hgrow1 hat1 hlt1; rw [Nat.zero_add, List.nil_append] at hown1; rw [Nat.zero_add]; have HB1 := Lib.hid ((Below.drew (below2 w (.cells #[.int .i64 n] 3) (.cells #[] 3))).grown hgrow1 (by first | (simp; done) | (simp; omega) | omega) (by intro q hq; simp [Value.ownBlock] at hq; omega)); have HN := Lib.hid ((hgrow1.block w.heap.size (by first | (simp; done) | (simp; omega) | omega) (by simp [Value.ownBlock])).trans (heap2a w (.cells #[.int .i64 n] 3) (.cells #[] 3))); clear hgrow1 hat1)
        | (have hbs := HB1.out.size; have hg1 := (hown1.lt g1 rfl).1; refine step_append_lies _ (by rfl) _ _ _ (by rfl) w.heap.size 3 i0 _ 1 8 Try.underlying33 hi hz0 hz1 hz2 rfl (by omega) (.slice (some ⟨g1, 0, none⟩) l.length cap1) l.length ((l.take l.length).map (Value.int .i64)) (by rfl) (hown1.alloc _) ⟨w4.heap.size, 0, none⟩ 1 1 [.int .i64 n] (by rfl) (by rfl) (news_one (heap_alloc_new w4 (.cells #[.int .i64 n] 3))) (by simp [Value.oneCell']) (by omega) (by unfold maxLen; omega) (by omega) (by first | omega | (simp; omega)) (w4.heap.size + 1) (by first | rfl | simp) ?_; intro g2 cap2 w5 hown2 hgrow2 hat2 hlt2; have HB2 := Lib.hid ((HB1.out.alloc HB1.out.size (.cells #[.int .i64 n] 3)).grown hgrow2 (by first | omega | (simp; omega)) (by intro q hq; simp [Value.ownBlock] at hq; omega)); clear hgrow2 hat2)
        | (have hbs := HB1.out.size; have hg1 := (hown1.lt g1 rfl).1; refine step_append_lies _ (by rfl) _ _ _ (by rfl) w.heap.size 3 i0 _ 1 8 Try.underlying33 hi hz0 hz1 hz2 rfl (by omega) (.slice (some ⟨g1, 0, none⟩) l.length cap1) l.length ((l.take l.length).map (Value.int .i64)) (by rfl) hown1 ⟨w.heap.size + 1, 0, none⟩ 1 1 [.int .i64 n] (by rfl) (by rfl) (news_one HN.out) (by simp [Value.oneCell']) (by omega) (by unfold maxLen; omega) (by omega) (by first | omega | (simp; omega)) (w4.heap.size) (by first | rfl | simp) ?_; intro g2 cap2 w5 hown2 hgrow2 hat2 hlt2; have HB2 := Lib.hid (HB1.out.grown hgrow2 (by first | omega | (simp; omega)) (by intro q hq; simp [Value.ownBlock] at hq; omega)); clear hgrow2 hat2)
        | (have hbs := HB1.out.size; have hg1 := (hown1.lt g1 rfl).1; refine step_append_lies _ (by rfl) _ _ _ (by rfl) w.heap.size 3 i0 _ 1 8 Try.underlying33 hi hz0 hz1 hz2 rfl (by omega) (.slice (some ⟨g1, 0, none⟩) l.length cap1) l.length ((l.take l.length).map (Value.int .i64)) (by rfl) hown1 ⟨w.heap.size, 0, none⟩ 1 1 [.int .i64 n] (by rfl) (by rfl) (news_one HN.out) (by simp [Value.oneCell']) (by omega) (by unfold maxLen; omega) (by omega) (by first | omega | (simp; omega)) (w4.heap.size) (by first | rfl | simp) ?_; intro g2 cap2 w5 hown2 hgrow2 hat2 hlt2; have HB2 := Lib.hid (HB1.out.grown hgrow2 (by first | omega | (simp; omega)) (by intro q hq; simp [Value.ownBlock] at hq; omega)); clear hgrow2 hat2)
        | (refine step_append_same _ (by rfl) _ _ _ (by rfl) w.heap.size 3 i0 1 Try.underlying33 hi hz1 (.slice (some ⟨g2, 0, none⟩) (l.length + 1) cap2) (l.length + 1) ((l.take l.length).map (Value.int .i64) ++ [.int .i64 n]) (by rfl) hown2 _ 0 _ rfl (by rfl) ?_))
      all_goals
        go_wp2
        go_ret
        refine ⟨_, rfl, ?_, HB2.out⟩
        have hfin := hown2
        rw [HINS.out]
        have e1 : (l.length + 1) = (l.take l.length ++ n :: l.drop l.length).length := by first | (simp; done) | (simp; omega) | (simp [HJ0.out]; done) | (simp [HJ0.out]; omega)
        have e2 : ((l.take l.length).map (Value.int .i64) ++ [.int .i64 n] : List Value) = (l.take l.length ++ n :: l.drop l.length).map (Value.int .i64) := by simp [List.drop_eq_nil_of_le (show l.length ≤ l.length by omega)]
        rw [← e1, ← e2]
        exact hfin
set_option maxRecDepth 100000 in
set_option maxHeartbeats 16000000 in
theorem with_end2 (g o cap : Nat) (l : List Int) (n : Int) (k : Nat) (w : World) (hl : l.length ≤ 1000) (hc : l.length ≤ cap) (hr : ∀ i (h : i < l.length), IntAt w l[i] g (o + i * 1)) (h1 : ∀ j (h : j < l.length), j < k → l[j] < n) (hk0 : 0 < k) (hk : k = l.length) (hck : ¬ cap = k) (hcm : cap ≤ maxLen) :
    Calls Try.prog 51 #[.slice (some ⟨g, o, none⟩) l.length cap, .int .i64 n] w (RetOwn (ins l n) w) := by
  have HINS : Hid (ins l n = l.take k ++ n :: l.drop k) := Lib.hid (ins_at (by omega) h1 (fun h => absurd h (by omega)))
  have HR := Lib.hid hr
  have H1 := Lib.hid h1
  obtain ⟨i0, hi, hz0, hz1, hz2⟩ := info_parts infoI
  unfold maxLen at hcm
  clear hr h1
  go_enter Try.func51, Try.ntmps51
  go_wp2
  go_loop [5] (fun i => ∃ j : Nat, j ≤ k ∧ i = .int .i64 j) (fun i => k - (intOf i).toNat)
  case atStart => exact ⟨0, Nat.zero_le _, rfl⟩
  case round =>
    obtain ⟨j, hj, rfl⟩ := hrel
    by_cases hjk : j < k
    · have q0 := (HR.out j (by omega)).c0
      obtain ⟨x, hx⟩ : ∃ x, l[j]'(by omega) = x := ⟨_, rfl⟩
      rw [hx, Nat.mul_one] at q0
      have jj0 : (0 : Int) ≤ (j : Int) := by omega
      have jj1 : (j : Int) < (l.length : Int) := by omega
      have hxn := H1.out j (by omega) hjk
      rw [hx] at hxn
      have d0 : decide (x < n) = true := by simpa using hxn
      clear hxn hx
      go_wp2
      go_round
      case rel => exact ⟨j + 1, by omega, by go_num⟩
      case measure => simp [intOf]; omega
    · obtain rfl : j = k := by omega
      subst hk
      have jj0 : (0 : Int) ≤ (l.length : Int) := by omega
      have kc0 : (l.length : Int) ≤ (cap : Int) := by omega
      have kc1 : (l.length : Int) ≤ (cap : Int) := by omega
      have kc2 : (l.length : Int) ≤ (l.length : Int) := by omega
      have elen : l.length - l.length = 0 := by omega
      go_wp2_with fail
      go_region_law (first
        | (refine step_append_lies _ (by rfl) _ _ _ (by rfl) w.heap.size 3 i0 _ 1 8 Try.underlying33 hi hz0 hz1 hz2 rfl (by omega) (.slice (some ⟨w.heap.size, 0, none⟩) 0 0) 0 [] (by rfl) (own_e (heap_alloc_new w (.cells #[] 3)) (by omega)) ⟨g, o, none⟩ l.length cap ((l.take l.length).map (Value.int .i64)) (by rfl) (by first | (simp; done) | (simp; omega) | omega) (row_take HR.out (Below.drew (below1 w (.cells #[] 3))) l.length) (ints_one _) (by omega) (by unfold maxLen; omega) (by omega) (by first | (simp; done) | (simp; omega) | omega) (w.heap.size + 1) (by simp) ?_; intro g1 cap1 w4 hown1 hgrow1 hat1 hlt1; rw [Nat.zero_add, List.nil_append] at hown1; rw [Nat.zero_add]; have HB1 := Lib.hid ((Below.drew (below1 w (.cells #[] 3))).grown hgrow1 (by first | (simp; done) | (simp; omega) | omega) (by intro q hq; simp [Value.ownBlock] at hq; omega)); have HN := Lib.hid (rfl : (0 : Nat) = 0); clear hgrow1 hat1)
        | (refine step_append_lies _ (by rfl) _ _ _ (by rfl) w.heap.size 3 i0 _ 1 8 Try.underlying33 hi hz0 hz1 hz2 rfl (by omega) (.slice (some ⟨w.heap.size, 0, none⟩) 0 0) 0 [] (by rfl) (own_e (heap2a w (.cells #[] 3) (.cells #[.int .i64 n] 3)) (by omega)) ⟨g, o, none⟩ l.length cap ((l.take l.length).map (Value.int .i64)) (by rfl) (by first | (simp; done) | (simp; omega) | omega) (row_take HR.out (Below.drew (below2 w (.cells #[] 3) (.cells #[.int .i64 n] 3))) l.length) (ints_one _) (by omega) (by unfold maxLen; omega) (by omega) (by first | (simp; done) | (simp; omega) | omega) (w.heap.size + 2) (by simp) ?_; intro g1 cap1 w4 hown1 hgrow1 hat1 hlt1; rw [Nat.zero_add, List.nil_append] at hown1; rw [Nat.zero_add]; have HB1 := Lib.hid ((Below.drew (below2 w (.cells #[] 3) (.cells #[.int .i64 n] 3))).grown hgrow1 (by first | (simp; done) | (simp; omega) | omega) (by intro q hq; simp [Value.ownBlock] at hq; omega)); have HN := Lib.hid ((hgrow1.block (w.heap.size + 1) (by first | (simp; done) | (simp; omega) | omega) (by simp [Value.ownBlock])).trans (heap2 w (.cells #[] 3) (.cells #[.int .i64 n] 3))); clear hgrow1 hat1)
        | (refine step_append_lies _ (by rfl) _ _ _ (by rfl) w.heap.size 3 i0 _ 1 8 Try.underlying33 hi hz0 hz1 hz2 rfl (by omega) (.slice (some ⟨w.heap.size + 1, 0, none⟩) 0 0) 0 [] (by rfl) (own_e (heap2 w (.cells #[.int .i64 n] 3) (.cells #[] 3)) (by omega)) ⟨g, o, none⟩ l.length cap ((l.take l.length).map (Value.int .i64)) (by rfl) (by first | (simp; done) | (simp; omega) | omega) (row_take HR.out (Below.drew (below2 w (.cells #[.int .i64 n] 3) (.cells #[] 3))) l.length) (ints_one _) (by omega) (by unfold maxLen; omega) (by omega) (by first | (simp; done) | (simp; omega) | omega) (w.heap.size + 2) (by simp) ?_; intro g1 cap1 w4 hown1 hgrow1 hat1 hlt1; rw [Nat.zero_add, List.nil_append] at hown1; rw [Nat.zero_add]; have HB1 := Lib.hid ((Below.drew (below2 w (.cells #[.int .i64 n] 3) (.cells #[] 3))).grown hgrow1 (by first | (simp; done) | (simp; omega) | omega) (by intro q hq; simp [Value.ownBlock] at hq; omega)); have HN := Lib.hid ((hgrow1.block w.heap.size (by first | (simp; done) | (simp; omega) | omega) (by simp [Value.ownBlock])).trans (heap2a w (.cells #[.int .i64 n] 3) (.cells #[] 3))); clear hgrow1 hat1)
        | (have hbs := HB1.out.size; have hg1 := (hown1.lt g1 rfl).1; refine step_append_lies _ (by rfl) _ _ _ (by rfl) w.heap.size 3 i0 _ 1 8 Try.underlying33 hi hz0 hz1 hz2 rfl (by omega) (.slice (some ⟨g1, 0, none⟩) l.length cap1) l.length ((l.take l.length).map (Value.int .i64)) (by rfl) (hown1.alloc _) ⟨w4.heap.size, 0, none⟩ 1 1 [.int .i64 n] (by rfl) (by rfl) (news_one (heap_alloc_new w4 (.cells #[.int .i64 n] 3))) (by simp [Value.oneCell']) (by omega) (by unfold maxLen; omega) (by omega) (by first | omega | (simp; omega)) (w4.heap.size + 1) (by first | rfl | simp) ?_; intro g2 cap2 w5 hown2 hgrow2 hat2 hlt2; have HB2 := Lib.hid ((HB1.out.alloc HB1.out.size (.cells #[.int .i64 n] 3)).grown hgrow2 (by first | omega | (simp; omega)) (by intro q hq; simp [Value.ownBlock] at hq; omega)); clear hgrow2 hat2)
        | (have hbs := HB1.out.size; have hg1 := (hown1.lt g1 rfl).1; refine step_append_lies _ (by rfl) _ _ _ (by rfl) w.heap.size 3 i0 _ 1 8 Try.underlying33 hi hz0 hz1 hz2 rfl (by omega) (.slice (some ⟨g1, 0, none⟩) l.length cap1) l.length ((l.take l.length).map (Value.int .i64)) (by rfl) hown1 ⟨w.heap.size + 1, 0, none⟩ 1 1 [.int .i64 n] (by rfl) (by rfl) (news_one HN.out) (by simp [Value.oneCell']) (by omega) (by unfold maxLen; omega) (by omega) (by first | omega | (simp; omega)) (w4.heap.size) (by first | rfl | simp) ?_; intro g2 cap2 w5 hown2 hgrow2 hat2 hlt2; have HB2 := Lib.hid (HB1.out.grown hgrow2 (by first | omega | (simp; omega)) (by intro q hq; simp [Value.ownBlock] at hq; omega)); clear hgrow2 hat2)
        | (have hbs := HB1.out.size; have hg1 := (hown1.lt g1 rfl).1; refine step_append_lies _ (by rfl) _ _ _ (by rfl) w.heap.size 3 i0 _ 1 8 Try.underlying33 hi hz0 hz1 hz2 rfl (by omega) (.slice (some ⟨g1, 0, none⟩) l.length cap1) l.length ((l.take l.length).map (Value.int .i64)) (by rfl) hown1 ⟨w.heap.size, 0, none⟩ 1 1 [.int .i64 n] (by rfl) (by rfl) (news_one HN.out) (by simp [Value.oneCell']) (by omega) (by unfold maxLen; omega) (by omega) (by first | omega | (simp; omega)) (w4.heap.size) (by first | rfl | simp) ?_; intro g2 cap2 w5 hown2 hgrow2 hat2 hlt2; have HB2 := Lib.hid (HB1.out.grown hgrow2 (by first | omega | (simp; omega)) (by intro q hq; simp [Value.ownBlock] at hq; omega)); clear hgrow2 hat2)
        | (refine step_append_same _ (by rfl) _ _ _ (by rfl) w.heap.size 3 i0 1 Try.underlying33 hi hz1 (.slice (some ⟨g2, 0, none⟩) (l.length + 1) cap2) (l.length + 1) ((l.take l.length).map (Value.int .i64) ++ [.int .i64 n]) (by rfl) hown2 _ 0 _ rfl (by rfl) ?_))
      all_goals
        go_wp2
        go_ret
        refine ⟨_, rfl, ?_, HB2.out⟩
        have hfin := hown2
        rw [HINS.out]
        have e1 : (l.length + 1) = (l.take l.length ++ n :: l.drop l.length).length := by first | (simp; done) | (simp; omega) | (simp [HJ0.out]; done) | (simp [HJ0.out]; omega)
        have e2 : ((l.take l.length).map (Value.int .i64) ++ [.int .i64 n] : List Value) = (l.take l.length ++ n :: l.drop l.length).map (Value.int .i64) := by simp [List.drop_eq_nil_of_le (show l.length ≤ l.length by omega)]
        rw [← e1, ← e2]
        exact hfin
set_option maxRecDepth 100000 in
set_option maxHeartbeats 8000000 in
theorem with_in (g o cap : Nat) (l : List Int) (n : Int) (k : Nat) (w : World) (hl : l.length ≤ 1000) (hr : ∀ i (h : i < l.length), IntAt w l[i] g (o + i * 1)) (h1 : ∀ j (h : j < l.length), j < k → l[j] < n) (hk : k < l.length) (h2 : l[k] = n) :
    Calls Try.prog 51 #[.slice (some ⟨g, o, none⟩) l.length cap, .int .i64 n] w fun e w' => e = .returned (.slice (some ⟨g, o, none⟩) l.length cap) ∧ w = w' := by
  have HR := Lib.hid hr
  have H1 := Lib.hid h1
  have H2 := Lib.hid h2
  clear hr h1 h2
  go_enter Try.func51, Try.ntmps51
  go_wp2
  go_loop [5] (fun i => ∃ j : Nat, j ≤ k ∧ i = .int .i64 j) (fun i => k - (intOf i).toNat)
  case atStart => exact ⟨0, Nat.zero_le _, rfl⟩
  case round =>
    obtain ⟨j, hj, rfl⟩ := hrel
    by_cases hjk : j < k
    · have q0 := (HR.out j (by omega)).c0
      obtain ⟨x, hx⟩ : ∃ x, l[j]'(by omega) = x := ⟨_, rfl⟩
      rw [hx, Nat.mul_one] at q0
      have jj0 : (0 : Int) ≤ (j : Int) := by omega
      have jj1 : (j : Int) < (l.length : Int) := by omega
      have hxn := H1.out j (by omega) hjk
      rw [hx] at hxn
      have d0 : decide (x < n) = true := by simpa using hxn
      clear hxn hx
      go_wp2
      go_round
      case rel => exact ⟨j + 1, by omega, by go_num⟩
      case measure => simp [intOf]; omega
    · obtain rfl : j = k := by omega
      have q0 := (HR.out j (by omega)).c0
      obtain ⟨x, hx⟩ : ∃ x, l[j]'(by omega) = x := ⟨_, rfl⟩
      rw [hx, Nat.mul_one] at q0
      have jj0 : (0 : Int) ≤ (j : Int) := by omega
      have jj1 : (j : Int) < (l.length : Int) := by omega
      have hxn := H2.out
      rw [hx] at hxn
      have d0 : decide (x < n) = false := by simp; omega
      have d1 : ((x : Int) == n) = true := by simp; omega
      clear hxn hx
      go_wp2
      go_ret
      exact ⟨rfl, rfl⟩
set_option maxRecDepth 100000 in
set_option maxHeartbeats 8000000 in
theorem with_nil (A : Option Addr) (c : Nat) (hA : A = none ∧ c = 0 ∨ ∃ g, A = some ⟨g, 0, none⟩) (n : Int) (w : World) (hcm : c ≤ maxLen) : Calls Try.prog 51 #[.slice A 0 c, .int .i64 n] w (RetOwn [n] w) := by
  obtain ⟨i0, hi, hz0, hz1, hz2⟩ := info_parts infoI
  unfold maxLen at hcm
  have EMPTY : True := trivial
  rcases hA with ⟨rfl, rfl⟩ | ⟨g, rfl⟩
  · go_enter Try.func51, Try.ntmps51
    go_wp2
    go_loop [5] (fun i => i = .int .i64 0) (fun _ => 0)
    case atStart => rfl
    case round =>
      obtain rfl := hrel
      go_wp2_with fail
      go_region_law (first
        | (refine step_append_same _ (by rfl) _ _ _ (by rfl) w.heap.size 3 i0 1 Try.underlying33 hi hz1 (.slice (some ⟨w.heap.size, 0, none⟩) 0 0) 0 [] (by rfl) (own_e (heap_alloc_new w (.cells #[] 3)) (by omega)) _ 0 _ rfl (by rfl) ?_)
        | (refine step_append_same _ (by rfl) _ _ _ (by rfl) w.heap.size 3 i0 1 Try.underlying33 hi hz1 (.slice (some ⟨w.heap.size, 0, none⟩) 0 0) 0 [] (by rfl) (own_e (heap2a w (.cells #[] 3) (.cells #[.int .i64 n] 3)) (by omega)) _ 0 _ rfl (by rfl) ?_)
        | (refine step_append_same _ (by rfl) _ _ _ (by rfl) w.heap.size 3 i0 1 Try.underlying33 hi hz1 (.slice (some ⟨w.heap.size + 1, 0, none⟩) 0 0) 0 [] (by rfl) (own_e (heap2 w (.cells #[.int .i64 n] 3) (.cells #[] 3)) (by omega)) _ 0 _ rfl (by rfl) ?_)
        | (refine step_append_lies _ (by rfl) _ _ _ (by rfl) w.heap.size 3 i0 _ 1 8 Try.underlying33 hi hz0 hz1 hz2 rfl (by omega) (.slice (some ⟨w.heap.size, 0, none⟩) 0 0) 0 [] (by rfl) (own_e (heap2a w (.cells #[] 3) (.cells #[.int .i64 n] 3)) (by omega)) ⟨w.heap.size + 1, 0, none⟩ 1 1 [.int .i64 n] (by rfl) (by rfl) (news_one (heap2 w (.cells #[] 3) (.cells #[.int .i64 n] 3))) (by simp [Value.oneCell']) (by omega) (by unfold maxLen; omega) (by omega) (by first | (simp; done) | (simp; omega) | omega) (w.heap.size + 2) (by simp) ?_; intro g2 cap2 w5 hown2 hgrow2 hat2 hlt2; have HB2 := Lib.hid ((Below.drew (below2 w (.cells #[] 3) (.cells #[.int .i64 n] 3))).grown hgrow2 (by first | omega | (simp; omega)) (by intro q hq; simp [Value.ownBlock] at hq; omega)); clear hgrow2 hat2)
        | (refine step_append_lies _ (by rfl) _ _ _ (by rfl) w.heap.size 3 i0 _ 1 8 Try.underlying33 hi hz0 hz1 hz2 rfl (by omega) (.slice (some ⟨w.heap.size + 1, 0, none⟩) 0 0) 0 [] (by rfl) (own_e (heap2 w (.cells #[.int .i64 n] 3) (.cells #[] 3)) (by omega)) ⟨w.heap.size, 0, none⟩ 1 1 [.int .i64 n] (by rfl) (by rfl) (news_one (heap2a w (.cells #[.int .i64 n] 3) (.cells #[] 3))) (by simp [Value.oneCell']) (by omega) (by unfold maxLen; omega) (by omega) (by first | (simp; done) | (simp; omega) | omega) (w.heap.size + 2) (by simp) ?_; intro g2 cap2 w5 hown2 hgrow2 hat2 hlt2; have HB2 := Lib.hid ((Below.drew (below2 w (.cells #[.int .i64 n] 3) (.cells #[] 3))).grown hgrow2 (by first | omega | (simp; omega)) (by intro q hq; simp [Value.ownBlock] at hq; omega)); clear hgrow2 hat2)
        | (refine step_append_same _ (by rfl) _ _ _ (by rfl) w.heap.size 3 i0 1 Try.underlying33 hi hz1 (.slice (some ⟨g2, 0, none⟩) (0 + 1) cap2) (0 + 1) ([] ++ [.int .i64 n]) (by rfl) hown2 _ 0 _ rfl (by rfl) ?_))
      all_goals
        go_wp2
        go_ret
        exact ⟨_, rfl, hown2, HB2.out⟩
  · have kc : (0 : Int) ≤ (c : Int) := by omega
    go_enter Try.func51, Try.ntmps51
    go_wp2
    go_loop [5] (fun i => i = .int .i64 0) (fun _ => 0)
    case atStart => rfl
    case round =>
      obtain rfl := hrel
      go_wp2_with fail
      go_region_law (first
        | (refine step_append_same _ (by rfl) _ _ _ (by rfl) w.heap.size 3 i0 1 Try.underlying33 hi hz1 (.slice (some ⟨w.heap.size, 0, none⟩) 0 0) 0 [] (by rfl) (own_e (heap_alloc_new w (.cells #[] 3)) (by omega)) _ 0 _ rfl (by rfl) ?_)
        | (refine step_append_same _ (by rfl) _ _ _ (by rfl) w.heap.size 3 i0 1 Try.underlying33 hi hz1 (.slice (some ⟨w.heap.size, 0, none⟩) 0 0) 0 [] (by rfl) (own_e (heap2a w (.cells #[] 3) (.cells #[.int .i64 n] 3)) (by omega)) _ 0 _ rfl (by rfl) ?_)
        | (refine step_append_same _ (by rfl) _ _ _ (by rfl) w.heap.size 3 i0 1 Try.underlying33 hi hz1 (.slice (some ⟨w.heap.size + 1, 0, none⟩) 0 0) 0 [] (by rfl) (own_e (heap2 w (.cells #[.int .i64 n] 3) (.cells #[] 3)) (by omega)) _ 0 _ rfl (by rfl) ?_)
        | (refine step_append_lies _ (by rfl) _ _ _ (by rfl) w.heap.size 3 i0 _ 1 8 Try.underlying33 hi hz0 hz1 hz2 rfl (by omega) (.slice (some ⟨w.heap.size, 0, none⟩) 0 0) 0 [] (by rfl) (own_e (heap2a w (.cells #[] 3) (.cells #[.int .i64 n] 3)) (by omega)) ⟨w.heap.size + 1, 0, none⟩ 1 1 [.int .i64 n] (by rfl) (by rfl) (news_one (heap2 w (.cells #[] 3) (.cells #[.int .i64 n] 3))) (by simp [Value.oneCell']) (by omega) (by unfold maxLen; omega) (by omega) (by first | (simp; done) | (simp; omega) | omega) (w.heap.size + 2) (by simp) ?_; intro g2 cap2 w5 hown2 hgrow2 hat2 hlt2; have HB2 := Lib.hid ((Below.drew (below2 w (.cells #[] 3) (.cells #[.int .i64 n] 3))).grown hgrow2 (by first | omega | (simp; omega)) (by intro q hq; simp [Value.ownBlock] at hq; omega)); clear hgrow2 hat2)
        | (refine step_append_lies _ (by rfl) _ _ _ (by rfl) w.heap.size 3 i0 _ 1 8 Try.underlying33 hi hz0 hz1 hz2 rfl (by omega) (.slice (some ⟨w.heap.size + 1, 0, none⟩) 0 0) 0 [] (by rfl) (own_e (heap2 w (.cells #[.int .i64 n] 3) (.cells #[] 3)) (by omega)) ⟨w.heap.size, 0, none⟩ 1 1 [.int .i64 n] (by rfl) (by rfl) (news_one (heap2a w (.cells #[.int .i64 n] 3) (.cells #[] 3))) (by simp [Value.oneCell']) (by omega) (by unfold maxLen; omega) (by omega) (by first | (simp; done) | (simp; omega) | omega) (w.heap.size + 2) (by simp) ?_; intro g2 cap2 w5 hown2 hgrow2 hat2 hlt2; have HB2 := Lib.hid ((Below.drew (below2 w (.cells #[.int .i64 n] 3) (.cells #[] 3))).grown hgrow2 (by first | omega | (simp; omega)) (by intro q hq; simp [Value.ownBlock] at hq; omega)); clear hgrow2 hat2)
        | (refine step_append_same _ (by rfl) _ _ _ (by rfl) w.heap.size 3 i0 1 Try.underlying33 hi hz1 (.slice (some ⟨g2, 0, none⟩) (0 + 1) cap2) (0 + 1) ([] ++ [.int .i64 n]) (by rfl) hown2 _ 0 _ rfl (by rfl) ?_))
      all_goals
        go_wp2
        go_ret
        exact ⟨_, rfl, hown2, HB2.out⟩
/-- With, for a list of the call's own. -/
theorem with_own (base : Nat) (v : Value) (l : List Int) (n : Int) (w : World) (hs : base ≤ w.heap.size) (h : Owns base w v l) (hinc : l.Pairwise (· < ·)) (hl : l.length ≤ 1000) (hi : ∀ x ∈ l, i64 x) :
    Calls Try.prog 51 #[v, .int .i64 n] w fun e w' => ∃ v', e = .returned v' ∧ Owns base w' v' (ins l n) ∧ Below w.heap.size w w' := by
  obtain ⟨A, c, rfl, hc, hr, hblk⟩ := own_ints h hi
  have hcm : c ≤ maxLen := by
    rcases owns_cases h with ⟨e, _⟩ | ⟨g, cap, cur, e, _, _, _, h2, _⟩
    · simp only [Value.slice.injEq] at e; omega
    · simp only [Value.slice.injEq] at e; omega
  have own (e : Ending) (w' : World) (hw : RetOwn (ins l n) w e w') : ∃ v', e = .returned v' ∧ Owns base w' v' (ins l n) ∧ Below w.heap.size w w' := by
    obtain ⟨v', h1, h2, h3⟩ := hw
    exact ⟨v', h1, own_weak h2 hs, h3⟩
  rcases Nat.eq_zero_or_pos l.length with h0 | h0
  · have e : l = [] := List.length_eq_zero_iff.1 h0
    subst e
    refine Calls.mono (with_nil A c ?_ n w hcm) own
    rcases owns_cases h with ⟨e, _⟩ | ⟨g, cap, cur, e, _⟩
    · simp only [Value.slice.injEq] at e; exact .inl ⟨e.1, e.2.2⟩
    · simp only [Value.slice.injEq] at e; exact .inr ⟨g, e.1⟩
  · obtain ⟨g, o, rfl, hrr⟩ := hr.at h0
    -- the first place whose number is not less
    have hex : ∃ k, k ≤ l.length ∧ (∀ j (h : j < l.length), j < k → l[j] < n) ∧ (∀ h : k < l.length, n ≤ l[k]) := by
      have key : ∀ m, m ≤ l.length → (∃ k, k < m ∧ (∀ j (h : j < l.length), j < k → l[j] < n) ∧ (∀ h : k < l.length, n ≤ l[k])) ∨ (∀ j (h : j < l.length), j < m → l[j] < n) := by
        intro m
        induction m with
        | zero => intro _; exact .inr (fun j _ h => by omega)
        | succ m ih =>
          intro hm
          rcases ih (by omega) with ⟨k, h1, h2, h3⟩ | h2
          · exact .inl ⟨k, by omega, h2, h3⟩
          · by_cases c : l[m]'(by omega) < n
            · exact .inr fun j hj hjm => by
                rcases Nat.lt_or_ge j m with c2 | c2
                · exact h2 j hj c2
                · have : j = m := by omega
                  subst this; exact c
            · exact .inl ⟨m, by omega, h2, fun h => by omega⟩
      rcases key l.length (Nat.le_refl _) with ⟨k, h1, h2, h3⟩ | h2
      · exact ⟨k, by omega, h2, h3⟩
      · exact ⟨l.length, Nat.le_refl _, h2, fun h => absurd h (Nat.lt_irrefl _)⟩
    obtain ⟨k, hk, h1, h2⟩ := hex
    by_cases hkl : k < l.length
    · by_cases he : l[k] = n
      · refine Calls.mono (with_in g o c l n k w hl hrr h1 hkl he) ?_
        rintro e w' ⟨rfl, rfl⟩
        exact ⟨_, rfl, by rw [ins_in hkl h1 he]; exact h, Below.refl _ _⟩
      · have hlt : n < l[k] := by have := h2 hkl; omega
        by_cases hk0 : k = 0
        · exact Calls.mono (with_zero g o c l n k w hl hc hrr h1 hk0 hkl hlt hcm) own
        · exact Calls.mono (with_mid g o c l n k w hl hc hrr h1 (by omega) hkl hlt hcm) own
    · have e : k = l.length := by omega
      by_cases hck : c = k
      · exact Calls.mono (with_end g o c l n k w hl hc hrr h1 (by omega) e hck hcm) own
      · exact Calls.mono (with_end2 g o c l n k w hl hc hrr h1 (by omega) e hck hcm) own
end Go.Proofs.Ytcjkhbggongcjaa
