/-
  The walk of the specification's Of.
-/
import Derived.Test.YtlnobjdlcnpjeaaW13
import Derived.Lib.SmallJoins
namespace Go.Proofs.Ytlnobjdlcnpjeaa
open Go.RowKit M

theorem own_set {w : World} {base e size g n cap : Nat} {xs : List Value} (h : w.ownsRow base e size (.slice (some ⟨g, 0, none⟩) n cap) n xs) (a : Addr) (ha : g ≠ a.block) (u : Value) : (w.setCell a u).ownsRow base e size (.slice (some ⟨g, 0, none⟩) n cap) n xs := by
  obtain ⟨h1, h2⟩ := h
  refine ⟨h1, ?_⟩
  rcases h2 with ⟨x, _⟩ | ⟨g', c', cur, hv, hbase, hg, r⟩
  · cases x
  · simp at hv
    obtain ⟨rfl, rfl⟩ := hv
    exact .inr ⟨_, _, cur, rfl, hbase, (Below.heap_setCell _ _ _ _ ha).trans hg, r⟩

/-- What the loop keeps: the rows of its own, the table under way, and the old world. -/
def RofInv (w : World) (s : ByteArray) (k : Nat) (g cap : Nat) (wr : World) : Prop :=
  wr.ownsRow (w.heap.size + 1) 3 1 (.slice (some ⟨g, 0, none⟩) (st s k).length cap) (st s k).length ((st s k).map (Value.int .i64)) ∧ g ≠ w.heap.size + 2 ∧
  wr.heap[w.heap.size + 2]? = some (.cells #[.slice (some ⟨g, 0, none⟩) (st s k).length cap, .int .i64 s.size] 25) ∧
  wr.heap[w.heap.size]? = some (.cells #[.slice none 0 0, .int .i64 0] 25) ∧ w.heap.size + 3 ≤ wr.heap.size ∧ Below w.heap.size w wr

theorem rinv_skip {w wr : World} {s : ByteArray} {k g cap : Nat} (h : RofInv w s k g cap wr) (hb : byteAt s k ≠ 10) : RofInv w s (k + 1) g cap wr := by
  have e : st s (k + 1) = st s k := by rw [st, if_neg hb]
  unfold RofInv
  rw [e]
  exact h

theorem rinv_hit {w wr w1 : World} {s : ByteArray} {k g cap g1 cap1 : Nat} {o : Obj} (h : RofInv w s k g cap wr) (hb : byteAt s k = 10)
    (hown : w1.ownsRow (w.heap.size + 1) 3 1 (.slice (some ⟨g1, 0, none⟩) ((st s k).length + 1) cap1) ((st s k).length + 1) ((st s k).map (Value.int .i64) ++ [.int .i64 ((k : Int) + 1)]))
    (hgrow : (wr.alloc o).grownBy w1 (Value.slice (some ⟨g, 0, none⟩) (st s k).length cap).ownBlock) (hat : (Value.slice (some ⟨g, 0, none⟩) (st s k).length cap).ownBlock = some g1 ∨ g1 = wr.heap.size + 1) :
    RofInv w s (k + 1) g1 cap1 (w1.setCell ⟨w.heap.size + 2, 0, none⟩ (.slice (some ⟨g1, 0, none⟩) ((st s k).length + 1) cap1)) := by
  obtain ⟨h1, h2, h3, h4, h5, h6⟩ := h
  have e : st s (k + 1) = st s k ++ [(k : Int) + 1] := by rw [st, if_pos hb]
  have el : (st s (k + 1)).length = (st s k).length + 1 := by rw [e, List.length_append]; rfl
  have hg : w.heap.size + 1 ≤ g := by
    obtain ⟨_, h1⟩ := h1
    rcases h1 with ⟨a, _⟩ | ⟨g', c', cur, hv, hbase, _⟩
    · cases a
    · simp at hv
      omega
  have hz : (wr.alloc o).heap.size = wr.heap.size + 1 := by simp
  have hown2 : (Value.slice (some ⟨g, 0, none⟩) (st s k).length cap).ownBlock = some g := rfl
  rw [hown2] at hgrow hat
  have hg1 : g1 ≠ w.heap.size + 2 := by
    rcases hat with hat | hat
    · simp at hat; omega
    · omega
  have hb3 : w1.heap[w.heap.size + 2]? = some (.cells #[.slice (some ⟨g, 0, none⟩) (st s k).length cap, .int .i64 s.size] 25) := by
    rw [hgrow.block (w.heap.size + 2) (by omega) (by simp; omega), Below.heap_alloc _ _ _ (by omega)]
    exact h3
  refine ⟨?_, hg1, ?_, ?_, by have := hgrow.size; simp [World.setCell]; omega, ?_⟩
  · rw [el, e, List.map_append]
    exact own_set hown _ (by exact hg1) _
  · rw [el]
    exact Joins.block_setCell (i := 0) hb3 _
  · rw [Below.heap_setCell _ _ _ _ (by simp), hgrow.block w.heap.size (by omega) (by simp; omega), Below.heap_alloc _ _ _ (by omega)]
    exact h4
  · exact ((h6.alloc (by omega) o).grown hgrow (by omega) (fun k' hk' => by simp at hk'; omega)).setCell (by simp) _

theorem rinv_start (w : World) (s : ByteArray) : RofInv w s 0 (w.heap.size + 1) 1 (((w.alloc (.cells #[.slice none 0 0, .int .i64 0] 25)).alloc (.cells #[.int .i64 0] 3)).alloc (.cells #[.slice (some ⟨w.heap.size + 1, 0, none⟩) 1 1, .int .i64 s.size] 25)) := by
  refine ⟨⟨rfl, .inr ⟨w.heap.size + 1, 1, #[.int .i64 0], rfl, by omega, ?_, by simp [st], by unfold maxLen; omega, rfl, by simp [st]⟩⟩, by omega, ?_, ?_, by simp, ?_⟩
  · rw [Below.heap_alloc _ _ _ (by simp)]
    have h := heap_alloc_new (w.alloc (.cells #[.slice none 0 0, .int .i64 0] 25)) (.cells #[.int .i64 0] 3)
    simpa using h
  · exact top_block w _ _ _
  · rw [Below.heap_alloc _ _ _ (by simp; omega), Below.heap_alloc _ _ _ (by simp)]
    exact heap_alloc_new w _
  · exact ((((Below.refl _ _).alloc (Nat.le_refl _) _).alloc (by simp) _).alloc (by simp; omega) _)

theorem byteAt_eq (s : ByteArray) (k : Nat) (h : k < s.size) : byteAt s k = (s[k]).toNat := by
  have h' : k < s.data.toList.length := by simpa using h
  unfold byteAt
  rw [List.getD, List.getElem?_eq_getElem h']
  rfl

set_option maxRecDepth 100000 in
set_option maxHeartbeats 800000 in
theorem rof_any (s : ByteArray) (w : World) (hs : s.size ≤ 100000) : Calls Try.prog 13 #[.string s] w (Tabled w s) := by
  obtain ⟨i0, hi, hz0, hz1, hz2⟩ := info_parts info3
  have HS := Lib.hid (rinv_start w s)
  go_enter Try.func13, Try.ntmps13
  go_wp2_with fail
  go_loopw [4] (fun i wr => ∃ k g cap : Nat, k ≤ s.size ∧ i = .int .i64 k ∧ RofInv w s k g cap wr)
    (fun i _ => s.size - (intOf i).toNat)
  case atStart => exact ⟨0, w.heap.size + 1, 1, Nat.zero_le _, rfl, HS.out⟩
  case round =>
    obtain ⟨k, g, cap, hk, rfl, hinv⟩ := hrel
    have hlen := st_len s k
    have HV := Lib.hid hinv
    have h3 := hinv.2.2.1
    have c0 : wr.cell? ⟨w.heap.size + 2, 0, none⟩ = some (.slice (some ⟨g, 0, none⟩) (st s k).length cap) := by simp [World.cell?, h3]
    have c1 : wr.cell? ⟨w.heap.size + 2, 1, none⟩ = some (.int .i64 s.size) := by simp [World.cell?, h3]
    have f0 : wr.frozen? ⟨w.heap.size + 2, 0, none⟩ = false := by simp [World.frozen?, h3]
    clear h3
    by_cases hks : k < s.size
    · have hk1 : (k : Int) < (s.size : Int) := by omega
      have hlw : w.heap.size + 2 < wr.heap.size := by have := hinv.2.2.2.2.1; omega
      have hgb : g ≠ w.heap.size + 2 := hinv.2.1
      clear hinv
      by_cases h10 : byteAt s k = 10
      · have hq : (((s[k]).toNat : Int) == 10) = true := by rw [← byteAt_eq s k hks]; simp; omega
        have H10 := Lib.hid h10
        clear h10
        go_wp2_with (at_builtin; refine wpList_append_lies _ rfl _ _ _ rfl (w.heap.size + 1) 3 i0 _ 1 8 Try.underlying23 hi hz0 hz1 hz2 rfl (by omega) (.slice (some ⟨g, 0, none⟩) (st s k).length cap) (st s k).length ((st s k).map (Value.int .i64)) rfl (HV.out.1.alloc _) ⟨wr.heap.size, 0, none⟩ 1 1 [.int .i64 ((k : Int) + 1)] rfl rfl (World.news_of_block (cs := #[.int .i64 ((k : Int) + 1)]) (t := 3) (fr := (0, 0)) (heap_alloc_new wr _)) (by simp [Value.oneCell']) (by omega) (by unfold maxLen; omega) (by omega) (by simp; omega) (wr.heap.size + 1) (by simp) ?_; intro g1 cap1 w1 hown1 hgrow1 hat1 hlt1; have c2 : w1.cell? ⟨w.heap.size + 2, 0, none⟩ = some (.slice (some ⟨g, 0, none⟩) (st s k).length cap) := (hgrow1.cell_far _ (by simp; omega) (by simp [Value.ownBlock]; omega)).trans ((World.cell?_alloc_past _ _ _ hlw).trans c0); have f2 : w1.frozen? ⟨w.heap.size + 2, 0, none⟩ = false := (hgrow1.frozen_far _ (by simp; omega) (by simp [Value.ownBlock]; omega)).trans ((World.frozen?_alloc_past _ _ _ hlw).trans f0))
        go_roundw
        case rel => exact ⟨k + 1, g1, cap1, by omega, by go_num, rinv_hit HV.out H10.out hown1 hgrow1 hat1⟩
        case measure => simp [intOf]; omega
      · have hq : (((s[k]).toNat : Int) == 10) = false := by rw [← byteAt_eq s k hks]; simp; omega
        have H10 := Lib.hid h10
        clear h10
        go_wp2
        go_roundw
        case rel => exact ⟨k + 1, g, cap, by omega, by go_num, rinv_skip HV.out H10.out⟩
        case measure => simp [intOf]; omega
    · obtain rfl : k = s.size := by omega
      have h4 := hinv.2.2.2.1
      have d0 : wr.cell? ⟨w.heap.size, 0, none⟩ = some (.slice none 0 0) := by simp [World.cell?, h4]
      have d1 : wr.cell? ⟨w.heap.size, 1, none⟩ = some (.int .i64 0) := by simp [World.cell?, h4]
      have e0 : wr.frozen? ⟨w.heap.size, 0, none⟩ = false := by simp [World.frozen?, h4]
      have e1 : wr.frozen? ⟨w.heap.size, 1, none⟩ = false := by simp [World.frozen?, h4]
      clear h4 hinv
      go_wp2
      refine bodyPost_ret (v := .agg #[.slice (some ⟨g, 0, none⟩) (st s s.size).length cap, .int .i64 s.size]) (by simp [results, Try.results13, go_sem, d0, d1]) rfl ⟨_, _, rfl, ?_, ?_⟩
      · have hg : g ≠ w.heap.size := by
          obtain ⟨_, h1⟩ := HV.out.1
          rcases h1 with ⟨a, _⟩ | ⟨g', c', cur, hv, hbase, _⟩
          · cases a
          · simp at hv
            omega
        exact ((row_of_own HV.out.1 rfl (by omega)).set _ hg _).set _ hg _
      · exact (HV.out.2.2.2.2.2.setCell (by simp) _).setCell (by simp) _
end Go.Proofs.Ytlnobjdlcnpjeaa
