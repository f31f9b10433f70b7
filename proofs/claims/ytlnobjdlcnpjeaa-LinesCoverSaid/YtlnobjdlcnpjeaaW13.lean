/-
  The walk of lines.Of.
-/
import Derived.Test.YtlnobjdlcnpjeaaW3
import Derived.Lib.ConvBytes
namespace Go.Proofs.Ytlnobjdlcnpjeaa
open Go.RowKit M

/-- The byte with number i. -/
def byteAt (s : ByteArray) (i : Nat) : Nat := (s.data.toList.getD i 0).toNat

/-- The starts of the lines among the first k bytes of s. -/
def st (s : ByteArray) : Nat → List Int
  | 0 => [0]
  | k + 1 => if byteAt s k = 10 then st s k ++ [(k : Int) + 1] else st s k
theorem st_len (s : ByteArray) (k : Nat) : 1 ≤ (st s k).length ∧ (st s k).length ≤ k + 1 := by
  induction k with
  | zero => simp [st]
  | succ k ih =>
    rw [st]
    split
    · rw [List.length_append]; simp; omega
    · omega

/-- What Of answers: a table whose starts are those of s, in new memory. -/
def Tabled (w : World) (s : ByteArray) (e : Ending) (w' : World) : Prop :=
  ∃ ao cap, e = .returned (.agg #[.slice ao (st s s.size).length cap, .int .i64 s.size]) ∧ Row w' ao (st s s.size).length (st s s.size) ∧ Below w.heap.size w w'

theorem below_bytes (B : Nat) (w : World) (s : ByteArray) (hB : B ≤ w.heap.size) : Below B w (Lib.bytesWorld w 5 s) :=
  ⟨rfl, rfl, rfl, by rw [Lib.bytesWorld_size]; omega, fun k hk => Lib.bytesWorld_at_old w 5 s k (by omega)⟩

/-- What the loop keeps: the rows of its own, and the old world. -/
def OfInv (w : World) (s : ByteArray) (k : Nat) (g cap : Nat) (wr : World) : Prop :=
  wr.ownsRow (w.heap.size + 1) 3 1 (.slice (some ⟨g, 0, none⟩) (st s k).length cap) (st s k).length ((st s k).map (Value.int .i64)) ∧ g ≠ w.heap.size + 2 ∧
  (∀ j, j < s.size → wr.cell? ⟨w.heap.size + 2, j, none⟩ = some (.int .u8 (byteAt s j))) ∧
  wr.heap[w.heap.size]? = some (.cells #[.slice none 0 0, .int .i64 0] 25) ∧ w.heap.size + 3 ≤ wr.heap.size ∧ Below w.heap.size w wr

theorem inv_start (w : World) (s : ByteArray) : OfInv w s 0 (w.heap.size + 1) 1 (Lib.bytesWorld ((w.alloc (.cells #[.slice none 0 0, .int .i64 0] 25)).alloc (.cells #[.int .i64 0] 3)) 5 s) := by
  have z : ((w.alloc (.cells #[.slice none 0 0, .int .i64 0] 25)).alloc (.cells #[.int .i64 0] 3)).heap.size = w.heap.size + 2 := by simp
  refine ⟨⟨rfl, .inr ⟨w.heap.size + 1, 1, #[.int .i64 0], rfl, by omega, ?_, by simp [st], by unfold maxLen; omega, rfl, by simp [st]⟩⟩, by omega, fun j hj => ?_, ?_, by rw [Lib.bytesWorld_size, z]; omega, ?_⟩
  · rw [Lib.bytesWorld_at_old _ _ _ _ (by rw [z]; omega)]
    have h := heap_alloc_new (w.alloc (.cells #[.slice none 0 0, .int .i64 0] 25)) (.cells #[.int .i64 0] 3)
    simpa using h
  · have h := Lib.bytesWorld_cell ((w.alloc (.cells #[.slice none 0 0, .int .i64 0] 25)).alloc (.cells #[.int .i64 0] 3)) 5 s j hj
    rw [z] at h
    exact h
  · rw [Lib.bytesWorld_at_old _ _ _ _ (by rw [z]; omega), Below.heap_alloc _ _ _ (by simp)]
    exact heap_alloc_new w _
  · exact (((Below.refl _ _).alloc (Nat.le_refl _) _).alloc (by simp) _).trans (below_bytes _ _ _ (by rw [z]; omega))

theorem inv_skip {w wr : World} {s : ByteArray} {k g cap : Nat} (h : OfInv w s k g cap wr) (hb : byteAt s k ≠ 10) : OfInv w s (k + 1) g cap wr := by
  have e : st s (k + 1) = st s k := by rw [st, if_neg hb]
  unfold OfInv
  rw [e]
  exact h

theorem inv_hit {w wr w1 : World} {s : ByteArray} {k g cap g1 cap1 : Nat} {o : Obj} (h : OfInv w s k g cap wr) (hb : byteAt s k = 10)
    (hown : w1.ownsRow (w.heap.size + 1) 3 1 (.slice (some ⟨g1, 0, none⟩) ((st s k).length + 1) cap1) ((st s k).length + 1) ((st s k).map (Value.int .i64) ++ [.int .i64 ((k : Int) + 1)]))
    (hgrow : (wr.alloc o).grownBy w1 (Value.slice (some ⟨g, 0, none⟩) (st s k).length cap).ownBlock) (hat : (Value.slice (some ⟨g, 0, none⟩) (st s k).length cap).ownBlock = some g1 ∨ g1 = wr.heap.size + 1) :
    OfInv w s (k + 1) g1 cap1 w1 := by
  obtain ⟨h1, h2, h3, h4, h5, h6⟩ := h
  have e : st s (k + 1) = st s k ++ [(k : Int) + 1] := by rw [st, if_pos hb]
  have hg : w.heap.size + 1 ≤ g := by
    obtain ⟨_, h1⟩ := h1
    rcases h1 with ⟨a, _⟩ | ⟨g', c', cur, hv, hbase, _⟩
    · cases a
    · simp at hv
      omega
  have hz : (wr.alloc o).heap.size = wr.heap.size + 1 := by simp
  have hown2 : (Value.slice (some ⟨g, 0, none⟩) (st s k).length cap).ownBlock = some g := rfl
  rw [hown2] at hgrow hat
  refine ⟨by rw [e, List.length_append, List.map_append]; exact hown, ?_, fun j hj => ?_, ?_, by have := hgrow.size; omega, ?_⟩
  · rcases hat with hat | hat
    · simp at hat; omega
    · omega
  · rw [World.cell?_of_block (w := wr) (a := ⟨w.heap.size + 2, j, none⟩)]
    · exact h3 j hj
    · rw [hgrow.block (w.heap.size + 2) (by omega) (by simp; omega)]
      exact Below.heap_alloc _ _ _ (by omega)
  · rw [hgrow.block w.heap.size (by omega) (by simp; omega), Below.heap_alloc _ _ _ (by omega)]
    exact h4
  · exact (h6.alloc (by omega) o).grown hgrow (by omega) (fun k' hk' => by simp at hk'; omega)

set_option maxRecDepth 100000 in
set_option maxHeartbeats 800000 in
theorem of_any (s : ByteArray) (w : World) (hs : s.size ≤ 100000) : Calls Try.prog 11 #[.string s] w (Tabled w s) := by
  obtain ⟨i0, hi, hz0, hz1, hz2⟩ := info_parts info3
  have kc := fun (w : World) => Lib.run_convert_string_bytes (P := Try.prog) w 9 39 5 s Try.underlying9 Try.underlying39 Try.underlying5
  have HS := Lib.hid (inv_start w s)
  go_enter Try.func11, Try.ntmps11
  go_wp2_with fail
  clear kc
  go_loopw [3, 10] (fun v i wr => ∃ k g cap : Nat, k ≤ s.size ∧ i = .int .i64 k ∧ v = .slice (some ⟨g, 0, none⟩) (st s k).length cap ∧ OfInv w s k g cap wr)
    (fun _ i _ => s.size - (intOf i).toNat)
  case atStart => exact ⟨0, w.heap.size + 1, 1, Nat.zero_le _, rfl, rfl, HS.out⟩
  case round =>
    obtain ⟨k, g, cap, hk, rfl, rfl, hinv⟩ := hrel
    have hlen := st_len s k
    have HV := Lib.hid hinv
    by_cases hks : k < s.size
    · have hcb := hinv.2.2.1 k hks
      have hk1 : (k : Int) < (s.size : Int) := by omega
      clear hinv
      by_cases h10 : byteAt s k = 10
      · have hq : ((byteAt s k : Int) == 10) = true := by simp; omega
        have H10 := Lib.hid h10
        clear h10
        go_wp2_with (at_builtin; refine wpList_append_lies _ rfl _ _ _ rfl (w.heap.size + 1) 3 i0 _ 1 8 Try.underlying23 hi hz0 hz1 hz2 rfl (by omega) (.slice (some ⟨g, 0, none⟩) (st s k).length cap) (st s k).length ((st s k).map (Value.int .i64)) rfl (HV.out.1.alloc _) ⟨wr.heap.size, 0, none⟩ 1 1 [.int .i64 ((k : Int) + 1)] rfl rfl (World.news_of_block (cs := #[.int .i64 ((k : Int) + 1)]) (t := 3) (fr := (0, 0)) (heap_alloc_new wr _)) (by simp [Value.oneCell']) (by omega) (by unfold maxLen; omega) (by omega) (by simp; have := HV.out.2.2.2.2.1; omega) (wr.heap.size + 1) (by simp) ?_; intro g1 cap1 w1 hown1 hgrow1 hat1 hlt1)
        go_roundw
        case rel =>
          have R := inv_hit HV.out H10.out hown1 hgrow1 hat1
          have e : (st s (k + 1)).length = (st s k).length + 1 := by rw [st, if_pos H10.out, List.length_append]; rfl
          exact ⟨k + 1, g1, cap1, by omega, by go_num, by rw [e], R⟩
        case measure => simp [intOf]; omega
      · have hq : ((byteAt s k : Int) == 10) = false := by simp; omega
        have H10 := Lib.hid h10
        clear h10
        go_wp2
        go_roundw
        case rel =>
          have e : st s (k + 1) = st s k := by rw [st, if_neg H10.out]
          exact ⟨k + 1, g, cap, by omega, by go_num, by rw [e], inv_skip HV.out H10.out⟩
        case measure => simp [intOf]; omega
    · obtain rfl : k = s.size := by omega
      have h4 := hinv.2.2.2.1
      have c0 : wr.cell? ⟨w.heap.size, 0, none⟩ = some (.slice none 0 0) := by simp [World.cell?, h4]
      have c1 : wr.cell? ⟨w.heap.size, 1, none⟩ = some (.int .i64 0) := by simp [World.cell?, h4]
      have f0 : wr.frozen? ⟨w.heap.size, 0, none⟩ = false := by simp [World.frozen?, h4]
      have f1 : wr.frozen? ⟨w.heap.size, 1, none⟩ = false := by simp [World.frozen?, h4]
      clear h4 hinv
      go_wp2
      refine bodyPost_ret (v := .agg #[.slice (some ⟨g, 0, none⟩) (st s s.size).length cap, .int .i64 s.size]) (by simp [results, Try.results11, go_sem, c0, c1]) rfl ⟨_, _, rfl, ?_, ?_⟩
      · have hg : g ≠ w.heap.size := by
          obtain ⟨_, h1⟩ := HV.out.1
          rcases h1 with ⟨a, _⟩ | ⟨g', c', cur, hv, hbase, _⟩
          · cases a
          · simp at hv
            omega
        exact ((row_of_own HV.out.1 rfl (by omega)).set _ hg _).set _ hg _
      · exact (HV.out.2.2.2.2.2.setCell (by simp) _).setCell (by simp) _
end Go.Proofs.Ytlnobjdlcnpjeaa
