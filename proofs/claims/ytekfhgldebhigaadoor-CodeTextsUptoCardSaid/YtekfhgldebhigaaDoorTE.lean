/-
  The operands that are used, by the program.
-/
import Derived.Test.YtekfhgldebhigaaDoorTD
import Derived.Test.YtekfhgldebhigaaDoorCE
set_option linter.all false
namespace Go.Proofs.YtekfhgldebhigaaDoor
open Go.RowKit C
set_option maxRecDepth 100000
def uL (q : Bs) (vs : List Int) : Nat → List Int
  | 0 => []
  | k + 1 => uL q vs k ++ (if q.getD k 0 = 45 then [] else [vs.getD k 0])
theorem uL_len (q : Bs) (vs : List Int) (k : Nat) : (uL q vs k).length ≤ k := by
  induction k with
  | zero => exact Nat.le_refl _
  | succ k ih => show (uL q vs k ++ _).length ≤ _; rw [List.length_append]; split <;> simp <;> omega
theorem mask_P (x : In) : maskT (rolesP x) = maskT (roles x.op) := by
  unfold rolesP
  by_cases h1 : x.op < 0 ∨ 53 ≤ x.op
  · rw [if_pos h1, roles_out (by omega)]
  · rw [if_neg h1]
    by_cases h2 : x.op = 51 ∧ x.b = 1
    · rw [if_pos h2, h2.1]; decide
    · rw [if_neg h2]
      have key : ∀ i : Fin 53, maskT (table.getD i.val []) = maskT (roles (i.val : Int)) := by decide
      have := key ⟨x.op.toNat, by omega⟩
      rwa [show ((⟨x.op.toNat, by omega⟩ : Fin 53).val : Int) = x.op by simp; omega] at this
theorem used_uL (x : In) : usedT x = uL (rolesP x) [x.a, x.b, x.c] (rolesP x).length := by
  unfold usedT
  rw [← mask_P]
  rcases rolesP_ok x with h | ⟨q0, q1, q2, h, _⟩
  · rw [h]; rfl
  · rw [h]
    simp only [maskT, List.map_cons, List.map_nil, usedM, uL, List.length_cons, List.length_nil, List.getD_cons_zero, List.getD_cons_succ, List.nil_append]
    by_cases e0 : q0 = 45 <;> by_cases e1 : q1 = 45 <;> by_cases e2 : q2 = 45 <;> simp [e0, e1, e2]
theorem roles_len (x : In) : (rolesP x).length ≤ 3 := by
  rcases rolesP_ok x with h | ⟨q0, q1, q2, h, _⟩ <;> rw [h] <;> simp
set_option maxHeartbeats 8000000 in
theorem used_any (x : In) (w : World) : Calls Tryd.prog 53 #[xv x] w (RetOwn (usedT x) w) := by
  have HN := Lib.hid (BX1.new x w)
  have HO : Hid (∀ V, Calls Tryd.prog 58 #[xv x] V fun e w' => e = .returned (ov x) ∧ Below V.heap.size V w') := Lib.hid fun V => operands_any x V
  obtain ⟨q, hq⟩ : ∃ q, rolesP x = q := ⟨_, rfl⟩
  have hq3 : q.length ≤ 3 := by rw [← hq]; exact roles_len x
  have HU : Hid (usedT x = uL q [x.a, x.b, x.c] q.length) := Lib.hid (by rw [← hq]; exact used_uL x)
  obtain ⟨s, hs⟩ : ∃ s, txt q = s := ⟨_, rfl⟩
  have HR : Hid (∀ V, Calls Tryd.prog 57 #[xv x] V fun e w' => e = .returned (.string s) ∧ Below V.heap.size V w') := Lib.hid fun V => by have := rolesOf_any x V; rw [hq, hs] at this; exact this
  have hsz : s.size = q.length := by rw [← hs, txt_size]
  have hsd : s.data.toList = q := by rw [← hs]; rfl
  have HSD := Lib.hid hsd
  have HSZ := Lib.hid hsz
  obtain ⟨n, hn⟩ : ∃ n, q.length = n := ⟨_, rfl⟩
  rw [hn] at HU HSZ hq3
  have HQN := Lib.hid hn
  clear hq hs hsz hsd hn
  go_enter Tryd.func53, Tryd.ntmps53
  obtain ⟨y0, y1, y2, y3, y4, yb⟩ := HN.out
  clear yb
  go_wp2_with fail
  refine (HO.out _).mono ?_
  rintro e w1 ⟨rfl, hw1⟩
  have hbx1 := Lib.hid ((HN.out.keep hw1).keep (below1 w1 (.cells #[.int .i64 x.a, .int .i64 x.b, .int .i64 x.c] 59)))
  have hz1 := hw1.size
  rw [World.size_alloc] at hz1
  have HARR := Lib.hid (heap_alloc_new w1 (.cells #[.int .i64 x.a, .int .i64 x.b, .int .i64 x.c] 59))
  have HW1 := Lib.hid (bel_step (below1 w (.cells #[.int .i64 x.op, .int .i64 x.a, .int .i64 x.b, .int .i64 x.c, .int .i64 x.at'] 34)) hw1)
  clear hw1 y0 y1 y2 y3 y4
  obtain ⟨y0, y1, y2, y3, y4, yb⟩ := hbx1.out
  clear yb
  go_wp2_with fail
  refine (HR.out _).mono ?_
  rintro e w2 ⟨rfl, hw2⟩
  have hz2 := hw2.size
  rw [World.size_alloc] at hz2
  have HARR2 := Lib.hid ((hw2.block w1.heap.size (by simp)).trans HARR.out)
  have HW2 := Lib.hid (bel_step (bel_step HW1.out (below1 w1 (.cells #[.int .i64 x.a, .int .i64 x.b, .int .i64 x.c] 59))) hw2)
  have hcv := run_bytes_of_string (P := Tryd.prog) w2 9 48 5 s Tryd.underlying9 Tryd.underlying48 Tryd.underlying5
  clear hw2 y0 y1 y2 y3 y4
  rw [HSZ.out] at hcv
  obtain ⟨C, hC⟩ : ∃ C, grownCap w2 n 0 5 = C := ⟨_, rfl⟩
  rw [hC] at hcv
  obtain ⟨W3, hW3⟩ : ∃ W, w2.drew.alloc (.cells (bytesRow s C) 5 ((bytesRow s C).size, (bytesRow s C).size + 1)) = W := ⟨_, rfl⟩
  rw [hW3] at hcv
  have hb3 : Below w2.heap.size w2 W3 := by rw [← hW3]; exact (Below.drew (Below.refl _ _)).alloc (Nat.le_refl _) _
  have hz3 : W3.heap.size = w2.heap.size + 1 := by rw [← hW3]; simp
  have HCELL : Hid (∀ j, j < n → W3.cell? ⟨w2.heap.size, j, none⟩ = some (.int .u8 ((q.getD j 0).toNat : Int))) := Lib.hid fun j hj => by
    have h1 : j < s.data.size := by have e : s.data.size = s.size := rfl; have := HSZ.out; omega
    have h2 := bytesRow_at s C j h1
    have h3 : (w2.drew.alloc (.cells (bytesRow s C) 5 ((bytesRow s C).size, (bytesRow s C).size + 1))).cell? ⟨w2.drew.heap.size, j, none⟩ = (bytesRow s C)[j]? := World.cell?_alloc_mark _ _ _ _ _
    rw [hW3] at h3
    have h4 : s.data[j] = q.getD j 0 := by
      have e := HSD.out
      have hj2 : j < q.length := by rw [HQN.out]; exact hj
      rw [List.getD_eq_getElem?_getD, List.getElem?_eq_getElem hj2]
      simp only [← e, Option.getD_some, Array.getElem_toList]
    rw [h4] at h2
    exact h3.trans h2
  have HARR3 := Lib.hid ((hb3.block w1.heap.size (by omega)).trans HARR2.out)
  have HW3 := Lib.hid (bel_step HW2.out hb3)
  clear hW3 hC hb3
  go_wp2_with fail
  go_loopw [3, 13] (fun s3 s13 wr => ∃ (k : Nat), s13 = .int .i64 (k : Int) ∧ k ≤ n ∧ wr.ownsRow W3.heap.size 3 1 s3 (uL q [x.a, x.b, x.c] k).length ((uL q [x.a, x.b, x.c] k).map (Value.int .i64)) ∧ Below W3.heap.size W3 wr) (fun _ s13 _ => n - (intOf s13).toNat)
  case atStart => exact ⟨0, rfl, Nat.zero_le _, World.ownsRow_nil _ _ _ _, Below.refl _ _⟩
  case round =>
    obtain ⟨k, rfl, hk, ho, hb⟩ := hrel
    obtain ⟨A, m, c, rfl⟩ := slice_form ho
    have hm : m = (uL q [x.a, x.b, x.c] k).length := by
      rcases ho.2 with ⟨e, h0⟩ | ⟨g, c', cur, e, _⟩
      · cases e; exact h0.symm
      · cases e; rfl
    obtain ⟨u, hu⟩ : ∃ u, uL q [x.a, x.b, x.c] k = u := ⟨_, rfl⟩
    have hul := uL_len q [x.a, x.b, x.c] k
    rw [hu] at ho hm hul
    subst hm
    have HUK := Lib.hid hu
    have HOW := Lib.hid ho
    have HB := Lib.hid hb
    have hzr := hb.size
    clear ho hb hu
    by_cases hlt : k < n
    · have cb := (HB.out.cell (p := ⟨w2.heap.size, k, none⟩) (by show w2.heap.size < _; omega)).trans (HCELL.out k hlt)
      obtain ⟨t, ht⟩ : ∃ t, (q.getD k 0).toNat = t := ⟨_, rfl⟩
      rw [ht] at cb
      have hv : ∃ y, [x.a, x.b, x.c].getD k 0 = y ∧ wr.cell? ⟨w1.heap.size, k, none⟩ = some (.int .i64 y) := by
        refine ⟨_, rfl, ?_⟩
        have e := (HB.out.block w1.heap.size (by omega)).trans HARR3.out
        rcases (by omega : k = 0 ∨ k = 1 ∨ k = 2) with rfl | rfl | rfl <;> simp [World.cell?, e]
      obtain ⟨y, hy, cy⟩ := hv
      have HS : Hid (uL q [x.a, x.b, x.c] (k + 1) = u ++ (if q.getD k 0 = 45 then [] else [y])) := Lib.hid (by rw [← HUK.out, ← hy]; rfl)
      have h45 : q.getD k 0 = 45 ↔ t = 45 := by rw [← ht]; exact ⟨fun e => by rw [e]; rfl, fun e => UInt8.toNat_inj.1 e⟩
      have H45 := Lib.hid h45
      have k3 : (k : Int) < 3 := by omega
      clear ht hy h45
      by_cases e45 : t = 45
      · subst e45
        have HS2 : Hid (uL q [x.a, x.b, x.c] (k + 1) = u) := Lib.hid (by rw [HS.out, if_pos (H45.out.2 rfl), List.append_nil])
        go_wp2_with fail
        go_roundw
        case rel => exact ⟨k + 1, by go_num, hlt, by rw [HS2.out]; exact HOW.out, HB.out⟩
        case measure => simp [intOf]; omega
      · have HS2 : Hid (uL q [x.a, x.b, x.c] (k + 1) = u ++ [y]) := Lib.hid (by rw [HS.out, if_neg (fun e => e45 (H45.out.1 e))])
        have e45' : ¬ (t : Int) = 45 := by omega
        obtain ⟨i0, hi, hz0, hz1', hz2'⟩ := info_parts infoI
        clear e45
        go_wp2_with (at_builtin; refine wpList_append_lies _ rfl _ _ _ rfl W3.heap.size 3 i0 _ 1 8 Tryd.underlying39 hi hz0 hz1' hz2' rfl (by omega) (.slice A u.length c) u.length (u.map (Value.int .i64)) rfl (World.ownsRow.alloc HOW.out _) ⟨wr.heap.size, 0, none⟩ 1 1 [.int .i64 y] rfl rfl (World.news_of_block (cs := #[.int .i64 y]) (t := 3) (fr := (0, 0)) (heap_alloc_new wr _)) (by simp [Value.oneCell']) (by omega) (by unfold maxLen; omega) (by omega) (by simp; omega) (wr.heap.size + 1) (by simp) ?_; intro g1 cap1 w4 hown1 hgr1 hat1 hlt1)
        have HO4 : Hid (w4.ownsRow W3.heap.size 3 1 (.slice (some ⟨g1, 0, none⟩) (u.length + 1) cap1) (uL q [x.a, x.b, x.c] (k + 1)).length ((uL q [x.a, x.b, x.c] (k + 1)).map (Value.int .i64))) := Lib.hid (by
          rw [HS2.out, List.length_append, List.map_append]; exact hown1)
        have HB4 : Hid (Below W3.heap.size W3 w4) := Lib.hid ((HB.out.alloc hzr _).grown hgr1 (by simp; omega) (fun j hj => (HOW.out.lt j hj).1))
        clear hown1 hgr1 hat1
        go_wp2_with fail
        go_roundw
        case rel => exact ⟨k + 1, by go_num, hlt, HO4.out, HB4.out⟩
        case measure => simp [intOf]; omega
    · obtain rfl : k = n := by omega
      go_wp2_with fail
      go_ret
      refine ⟨_, rfl, ?_, HW3.out.trans (HB.out.mono (by have := HW3.out.size; omega))⟩
      rw [HU.out, HUK.out]
      exact own_weak HOW.out (by have := HW3.out.size; omega)
end Go.Proofs.YtekfhgldebhigaaDoor
