/-
  The walk of 'copied': a copy of a table, in new memory.
-/
import Derived.Test.YtlnobjdlcnpjeaaW1
import Derived.RegionTactic
import Derived.BigRegion
import Derived.Deep.RegionHeld3
import Derived.Deep.AppendLies
namespace Go.Proofs.Ytlnobjdlcnpjeaa
open Go.RowKit M

theorem info3 : (Try.prog.info? 3).map (fun i => (i.zero, i.size, i.bytes)) = some (some (.int .i64 0), 1, 8) := by kernel_rfl

/-- What a copy of a table leaves: a slice that reads as the same numbers, in memory of its own. -/
def Copied (w : World) (n : Nat) (zs : List Int) (size : Int) (e : Ending) (w' : World) : Prop :=
  ∃ ao cap, e = .returned (.agg #[.slice ao n cap, .int .i64 size]) ∧ Row w' ao n zs ∧ Below w.heap.size w w'

theorem row_of_own {w : World} {base gg n cap : Nat} {zs : List Int} (h : w.ownsRow base 3 1 (.slice (some ⟨gg, 0, none⟩) n cap) n (zs.map (Value.int .i64))) (hz : zs.length = n) (hb : (n : Int) ≤ 1000000) :
    Row w (some ⟨gg, 0, none⟩) n zs := by
  refine ⟨hz, hb, ?_⟩
  by_cases hn : n = 0
  · exact .inl hn
  · refine .inr ⟨gg, 0, rfl, ?_, fun i hi => ?_⟩
    · obtain ⟨g, c, hv, _, hlt⟩ := h.form (by omega)
      simp at hv
      obtain ⟨rfl, rfl⟩ := hv
      exact hlt
    · rw [Nat.zero_add, h.cellAt i (by omega), List.getElem?_map, List.getElem?_eq_getElem (by omega)]
      simp [at0, List.getD, List.getElem?_eq_getElem (show i < zs.length by omega)]
theorem Row.of_block {w w' : World} {g off n : Nat} {zs : List Int} (h : Row w (some ⟨g, off, none⟩) n zs) (hs : w.heap.size ≤ w'.heap.size) (hb : w'.heap[g]? = w.heap[g]?) : Row w' (some ⟨g, off, none⟩) n zs := by
  obtain ⟨h1, h2, h3⟩ := h
  refine ⟨h1, h2, ?_⟩
  rcases h3 with h3 | ⟨b, o, e, hlt, hc⟩
  · exact .inl h3
  · simp at e
    obtain ⟨rfl, rfl⟩ := e
    exact .inr ⟨_, _, rfl, by omega, fun i hi => (World.cell?_of_block (w := w) hb).trans (hc i hi)⟩
theorem Row.set {w : World} {g off n : Nat} {zs : List Int} (h : Row w (some ⟨g, off, none⟩) n zs) (a : Addr) (ha : g ≠ a.block) (u : Value) : Row (w.setCell a u) (some ⟨g, off, none⟩) n zs :=
  h.of_block (by simp [World.setCell]) (Below.heap_setCell _ _ _ _ ha)
/-- What was there when the call began reads on as it did. -/
theorem Row.below {w w' : World} {ao : Option Addr} {n : Nat} {zs : List Int} (h : Row w ao n zs) (hb : Below w.heap.size w w') : Row w' ao n zs := by
  obtain ⟨h1, h2, h3⟩ := h
  refine ⟨h1, h2, ?_⟩
  rcases h3 with h3 | ⟨b, o, e, hlt, hc⟩
  · exact .inl h3
  · exact .inr ⟨b, o, e, by have := hb.size; omega, fun i hi => (hb.cell (by exact hlt)).trans (hc i hi)⟩

theorem below3 (w : World) (o1 o2 o3 : Obj) : Below w.heap.size w (((w.alloc o1).alloc o2).alloc o3).drew :=
  ((((Below.refl _ _).alloc (Nat.le_refl _) o1).alloc (by simp) o2).alloc (by simp; omega) o3).drew

set_option maxRecDepth 100000 in
set_option maxHeartbeats 400000 in
theorem copied_none (ao : Option Addr) (cap : Nat) (size : Int) (w : World) :
    Calls Try.prog 16 #[.agg #[.slice ao 0 cap, .int .i64 size]] w (Copied w 0 [] size) := by
  cases ao
  all_goals
    go_enter Try.func16, Try.ntmps16
    go_wp2_with fail
    go_region
    all_goals go_wp2
    all_goals
      refine bodyPost_ret (v := .agg #[.slice (some ⟨w.heap.size + 1 + 1, 0, none⟩) 0 0, .int .i64 size]) (by simp [results, Try.results16, go_sem]) rfl ⟨_, _, rfl, ⟨rfl, by decide, .inl rfl⟩, ?_⟩
      exact below3 _ _ _ _

theorem news_ok {w W : World} {b off n : Nat} {zs : List Int} (hz : zs.length = n) (hlt : b < w.heap.size) (hc : ∀ i, i < n → w.cell? ⟨b, off + i, none⟩ = some (.int .i64 (at0 zs i))) (hW : Below w.heap.size w W) :
    ∀ j u, (zs.map (Value.int .i64))[j]? = some u → W.cell? ((⟨b, off, none⟩ : Addr).add j) = some u := by
  intro j u hu
  rw [List.getElem?_map] at hu
  obtain ⟨z, hz1, hz2⟩ := Option.map_eq_some_iff.1 hu
  obtain ⟨hj, hz3⟩ := List.getElem?_eq_some_iff.1 hz1
  have hadd : (⟨b, off, none⟩ : Addr).add j = ⟨b, off + j, none⟩ := by unfold Addr.add; split <;> simp_all
  rw [hadd, hW.cell (by exact hlt), hc j (by omega), ← hz2]
  simp [at0, List.getD, hz1]

theorem own_empty {W : World} {B : Nat} (base : Nat) (hB : base ≤ B) (h : W.heap[B]? = some (.cells #[] 3)) : W.ownsRow base 3 1 (.slice (some ⟨B, 0, none⟩) 0 0) 0 [] :=
  ⟨rfl, .inr ⟨B, 0, #[], rfl, hB, h, Nat.le_refl _, Nat.zero_le _, rfl, rfl⟩⟩

theorem ints_one (zs : List Int) : ∀ u ∈ zs.map (Value.int .i64), u.oneCell' = true := by
  intro u hu
  obtain ⟨z, _, rfl⟩ := List.mem_map.1 hu
  rfl
theorem top_block (w : World) (o1 o2 o3 : Obj) : (((w.alloc o1).alloc o2).alloc o3).drew.heap[w.heap.size + 1 + 1]? = some o3 := by
  have h := heap_alloc_new ((w.alloc o1).alloc o2) o3
  have e : ((w.alloc o1).alloc o2).heap.size = w.heap.size + 1 + 1 := by simp
  rw [e] at h
  exact h
theorem mid_cell (w : World) (o1 o3 : Obj) (cs : Array Value) (t : TypeId) (j : Nat) : (((w.alloc o1).alloc (.cells cs t)).alloc o3).drew.cell? ⟨w.heap.size + 1, j, none⟩ = cs[j]? := by
  rw [World.cell?_drew, World.cell?_alloc_past _ _ _ (by simp), World.cell?_alloc_at _ _ _ _ (by simp)]
theorem mid_free (w : World) (o1 o3 : Obj) (cs : Array Value) (t : TypeId) (j : Nat) : (((w.alloc o1).alloc (.cells cs t)).alloc o3).drew.frozen? ⟨w.heap.size + 1, j, none⟩ = false := by
  rw [World.frozen?_drew, World.frozen?_alloc_past _ _ _ (by simp), World.frozen?_alloc_at _ _ _ _ (by simp)]
set_option maxRecDepth 100000 in
set_option maxHeartbeats 800000 in
theorem copied_some (b off n cap : Nat) (zs : List Int) (size : Int) (w : World) (hn : 0 < n) (hz : zs.length = n) (hb : (n : Int) ≤ 1000000) (hlt : b < w.heap.size)
    (hc : ∀ i, i < n → w.cell? ⟨b, off + i, none⟩ = some (.int .i64 (at0 zs i))) :
    Calls Try.prog 16 #[.agg #[.slice (some ⟨b, off, none⟩) n cap, .int .i64 size]] w (Copied w n zs size) := by
  have HC := Lib.hid hc
  have HZ := Lib.hid hz
  clear hc hz
  obtain ⟨i0, hi, hz0, hz1, hz2⟩ := info_parts info3
  go_enter Try.func16, Try.ntmps16
  go_wp2_with fail
  go_region_held3 (fun w' => w'.cell? ⟨w.heap.size, 0, none⟩ = some (.slice (some ⟨b, off, none⟩) n cap) ∧ w'.cell? ⟨w.heap.size, 1, none⟩ = some (.int .i64 size))
    (first
      | go_keep
      | (go_split_ands
         refine ⟨?_, ?_⟩
         · (rw [hgrow.cell_far _ (by simp <;> omega) (by simp [Value.ownBlock] <;> omega)]; assumption)
         · (rw [hgrow.cell_far _ (by simp <;> omega) (by simp [Value.ownBlock] <;> omega)]; assumption)))
    ((refine step_append_lies _ (by rfl) _ _ _ (by rfl) w.heap.size 3 i0 _ 1 8 Try.underlying23 hi hz0 hz1 hz2 rfl (by omega) (.slice (some ⟨w.heap.size + 1 + 1, 0, none⟩) 0 0) 0 [] (by rfl) (own_empty _ (by omega) (top_block _ _ _ _))
        ⟨b, off, none⟩ n cap (zs.map (Value.int .i64)) (by rfl) (by rw [List.length_map, HZ.out]; omega) (news_ok HZ.out hlt HC.out (below3 _ _ _ _)) (ints_one _)
        hn (by unfold maxLen; omega) (by omega) (by simp; omega) (w.heap.size + 3) (by simp) ?_; intro gg cap1 w1 hown1 hgrow hat hlt1
      have r0 : w1.cell? ⟨w.heap.size + 1, 0, none⟩ = some (.slice none 0 0) := (hgrow.cell_far _ (by simp <;> omega) (by simp [Value.ownBlock])).trans (mid_cell w _ _ _ _ _)
      have r1 : w1.cell? ⟨w.heap.size + 1, 1, none⟩ = some (.int .i64 0) := (hgrow.cell_far _ (by simp <;> omega) (by simp [Value.ownBlock])).trans (mid_cell w _ _ _ _ _)
      have f0 : w1.frozen? ⟨w.heap.size + 1, 0, none⟩ = false := (hgrow.frozen_far _ (by simp <;> omega) (by simp [Value.ownBlock])).trans (mid_free w _ _ _ _ _)
      have f1 : w1.frozen? ⟨w.heap.size + 1, 1, none⟩ = false := (hgrow.frozen_far _ (by simp <;> omega) (by simp [Value.ownBlock])).trans (mid_free w _ _ _ _ _)
      have HB := Lib.hid ((below3 w _ _ _).grown hgrow (by simp; omega) (by simp [Value.ownBlock]; omega))))
  go_wp2
  refine bodyPost_ret (v := .agg #[.slice (some ⟨gg, 0, none⟩) n cap1, .int .i64 size]) (by simp [results, Try.results16, go_sem, r0, r1]) rfl ⟨_, _, rfl, ?_, ?_⟩
  · simp only [Nat.zero_add, List.nil_append] at hown1
    have hg : gg ≠ w.heap.size + 1 := by
      simp [Value.ownBlock] at hat
      omega
    exact ((row_of_own hown1 HZ.out hb).set _ hg _).set _ hg _
  · exact (HB.out.setCell (by simp) _).setCell (by simp) _

/-- 'copied', at every table of up to a million lines. -/
theorem copied_any (ao : Option Addr) (n cap : Nat) (zs : List Int) (size : Int) (w : World) (h : Row w ao n zs) :
    Calls Try.prog 16 #[.agg #[.slice ao n cap, .int .i64 size]] w (Copied w n zs size) := by
  obtain ⟨hz, hb, h3⟩ := h
  by_cases hn : n = 0
  · subst hn
    obtain rfl : zs = [] := List.length_eq_zero_iff.1 hz
    exact copied_none ao cap size w
  · rcases h3 with h3 | ⟨b, off, rfl, hlt, hc⟩
    · exact absurd h3 hn
    · exact copied_some b off n cap zs size w (by omega) hz hb hlt hc

theorem bcell {W w1 : World} (hb : Below W.heap.size W w1) : (∀ b o, b < W.heap.size → w1.cell? ⟨b, o, none⟩ = W.cell? ⟨b, o, none⟩) ∧ (∀ b o, b < W.heap.size → w1.frozen? ⟨b, o, none⟩ = W.frozen? ⟨b, o, none⟩) :=
  ⟨fun b o h => hb.cell (p := ⟨b, o, none⟩) h, fun b o h => hb.frozen (p := ⟨b, o, none⟩) h⟩
end Go.Proofs.Ytlnobjdlcnpjeaa
