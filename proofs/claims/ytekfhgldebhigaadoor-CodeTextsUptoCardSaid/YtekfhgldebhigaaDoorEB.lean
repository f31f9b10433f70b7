/-
  The walks of the program's ordered, existing.
-/
import Derived.Test.YtekfhgldebhigaaDoorRH
import Derived.Test.YtekfhgldebhigaaDoorME
import Derived.Test.YtekfhgldebhigaaDoorShelf
import Derived.Sort.OwnSortedInts
set_option linter.all false
namespace Go.Proofs.YtekfhgldebhigaaDoor
open Go.RowKit Go.Sort Go.Shelf C
/-- A list in memory of the call's own, from a block on. -/
def Owns (base : Nat) (w : World) (v : Value) (l : List Int) : Prop := w.ownsRow base 3 1 v l.length (l.map (Value.int .i64))
theorem Owns.keep {base : Nat} {w w' : World} {v : Value} {l : List Int} (h : Owns base w v l) (hb : Below w.heap.size w w') : Owns base w' v l := own_keep h hb
theorem Owns.weak {base base' : Nat} {w : World} {v : Value} {l : List Int} (h : Owns base w v l) (hb : base' ≤ base) : Owns base' w v l := own_weak h hb
theorem owns_cases {base : Nat} {w : World} {v : Value} {l : List Int} (h : Owns base w v l) : (v = .slice none 0 0 ∧ l = []) ∨ ∃ g cap cur, v = .slice (some ⟨g, 0, none⟩) l.length cap ∧ base ≤ g ∧ w.heap[g]? = some (.cells cur 3 (0, 0)) ∧ l.length ≤ cap ∧ cap ≤ maxLen ∧ cur.size = cap * 1 ∧ cur.toList.take l.length = l.map (Value.int .i64) := by
  rcases h.2 with ⟨h1, h2⟩ | ⟨g, cap, cur, hv, hg, hh, h1, h2, h3, h4⟩
  · exact .inl ⟨h1, by simpa using h2⟩
  · exact .inr ⟨g, cap, cur, hv, hg, hh, h1, h2, h3, by rw [Nat.mul_one] at h4; exact h4⟩
/-- In place: the same block holds another list of the same length, cut. -/
theorem owns_put {w : World} {base g cap n : Nat} {os : Array Obj} {cur : Array Value} {l m z : List Int} (hlen : (m ++ z).length = l.length) (hbase : base ≤ g) (hb : w.heap[g]? = some (.cells cur 3 (0, 0)))
    (h1 : l.length ≤ cap) (h2 : cap ≤ maxLen) (h3 : cur.size = cap * 1) :
    Owns base (grow (putRow (Value.int .i64) (Sort.ahead w n) g 0 (m ++ z).toArray) os) (.slice (some ⟨g, 0, none⟩) m.length cap) m := by
  have h := ownsRow_sortedI (n := n) (os := os) (ss := l) (ts := m ++ z) hlen hbase hb h1 h2 h3
  rcases h.2 with ⟨e, _⟩ | ⟨g', cap', cur', hv, hg, hh, k1, k2, k3, k4⟩
  · cases e
  · simp only [Value.slice.injEq, Option.some.injEq, Addr.mk.injEq, and_true, true_and] at hv
    obtain ⟨rfl, rfl⟩ := hv
    refine ⟨by simp, .inr ⟨g, cap, cur', rfl, hg, hh, ?_, k2, k3, ?_⟩⟩
    · simp at hlen; omega
    · have hle : m.length ≤ l.length := by simp at hlen; omega
      have := congrArg (List.take m.length) k4
      rw [List.take_take] at this
      rw [Nat.mul_one]
      rw [show min m.length (l.length * 1) = m.length by omega] at this
      rw [this]; simp
theorem below_put {w : World} {base g n : Nat} {os : Array Obj} (hbase : base ≤ g) (hs : base ≤ w.heap.size) (d : Array Int) : Below base w (grow (putRow (Value.int .i64) (Sort.ahead w n) g 0 d) os) :=
  (Below.refl base w).grown (grownBy_sortedI d) hs (fun k hk => by cases hk; exact hbase)
set_option maxRecDepth 100000 in
set_option maxHeartbeats 2000000 in
theorem ordered_own (base : Nat) (v : Value) (l : List Int) (w : World) (hs : base ≤ w.heap.size) (h : Owns base w v l) (hl : l.length ≤ 1000) :
    Calls Tryd.prog 39 #[v] w fun e w' => ∃ v', e = .returned v' ∧ Owns base w' v' (insAll [] l) ∧ Below base w w' := by
  rw [← sortU_eq]
  rcases owns_cases h with ⟨rfl, rfl⟩ | ⟨g, cap, cur, rfl, hg, hh, h1, h2, h3, h4⟩
  · rw [sortU_nil]
    have HS := Tryd.slices_Sort_int_none none 0 w
    have HC := fun W => Tryd.slices_Compact_int_empty none 0 W
    go_enter Tryd.func39, Tryd.ntmps39
    go_wp2_with (first
      | (go_at_call 60; refine HS.mono ?_; rintro e w1 ⟨rfl, hw1⟩; subst hw1)
      | (go_at_call 61; refine (HC _).mono ?_; rintro e w1 ⟨rfl, hw1⟩; subst hw1))
    go_ret
    exact ⟨_, rfl, World.ownsRow_nil _ _ _ _, Below.refl _ _⟩
  · obtain ⟨s, hs'⟩ : ∃ s, (l.mergeSort fun x y => decide (x ≤ y)) = s := ⟨_, rfl⟩
    have hsl : s.length = l.length := by rw [← hs']; exact List.length_mergeSort _
    obtain ⟨c, hc⟩ : ∃ c, Lib.compact s = c := ⟨_, rfl⟩
    have hcl : c.length ≤ s.length := by rw [← hc]; exact Lib.compact_length_le s
    have hU : sortU l = c := by unfold sortU; rw [hs', hc]
    rw [hU]
    have hglt : g < w.heap.size := (Array.getElem?_eq_some_iff.1 hh).1
    have HS := Tryd.slices_Sort_int g 0 cap l w (holds_of_blockI hh h4) hglt (by omega)
    rw [hs'] at HS
    have HS2 : Hid (Calls Tryd.prog 60 #[.slice (some ⟨g, 0, none⟩) l.length cap] w fun e w' => e = .returned (.tuple #[]) ∧ ∃ n os, w' = grow (putRow (Value.int .i64) (Sort.ahead w n) g 0 s.toArray) os) := Lib.hid HS
    have HK : Hid (∀ n os, Calls Tryd.prog 61 #[.slice (some ⟨g, 0, none⟩) l.length cap] (grow (putRow (Value.int .i64) (Sort.ahead w n) g 0 s.toArray) os) fun e w' => e = .returned (.slice (some ⟨g, 0, none⟩) c.length cap) ∧ Owns base w' (.slice (some ⟨g, 0, none⟩) c.length cap) c ∧ Below base w w') := Lib.hid fun n os => by
      have hb := heap_sortedI (n := n) (os := os) s.toArray hh
      have hsz : (putCells (Value.int .i64) 0 s.toArray cur).size = cap * 1 := by simp [putCells, h3]
      have ht := take_putCellsI cur s (by rw [h3]; omega)
      have h0 : (grow (putRow (Value.int .i64) (Sort.ahead w n) g 0 s.toArray) os).heap.size ≥ w.heap.size := by simp [grow]
      have := Tryd.slices_Compact_int g 0 cap s _ (holds_of_blockI hb ht) (by omega) (by omega)
      rw [hc] at this
      rw [← hsl]
      refine this.mono ?_
      rintro e w' ⟨he, q, rfl⟩
      refine ⟨he, ?_, ?_⟩
      · have := owns_put (os := #[]) (n := q) (l := s) (m := c) (z := List.replicate (s.length - c.length) 0) (by simp; omega) hg hb (by omega) h2 hsz
        rwa [grow_empty] at this
      · have b1 := below_put (n := n) (os := os) hg hs s.toArray
        have b2 := below_put (w := (grow (putRow (Value.int .i64) (Sort.ahead w n) g 0 s.toArray) os)) (n := q) (os := #[]) hg (by omega) (c ++ List.replicate (s.length - c.length) 0).toArray
        rw [grow_empty] at b2
        exact b1.trans b2
    clear HS hh h4 h3 hs' hc hU
    go_enter Tryd.func39, Tryd.ntmps39
    go_wp2_with (first
      | (go_at_call 60; refine HS2.out.mono ?_; rintro e w1 ⟨rfl, n, os, hw1⟩; subst hw1)
      | (go_at_call 61; refine (HK.out _ _).mono ?_; rintro e w1 ⟨rfl, ho, hb⟩))
    go_ret
    exact ⟨_, rfl, ho, hb⟩
theorem pos_gives (x : Int) (W : World) : FnGives Tryd.prog 63 #[] #[.int .i64 x] (.bool (decide (x < 0))) W := by
  show Calls Tryd.prog 63 #[.int .i64 x] W _
  go_enter Tryd.func63, Tryd.ntmps63
  go_wp2
  all_goals (go_ret; exact ⟨by simp_all, 0, rfl⟩)
set_option maxRecDepth 100000 in
set_option maxHeartbeats 2000000 in
theorem deleteNone (fv : Value) (w : World) : Calls Tryd.prog 62 #[.slice none 0 0, fv] w fun e w' => e = .returned (.slice none 0 0) ∧ w = w' := by
  have HX := fun W => Tryd.slices_IndexFunc_empty (α := Int) none 0 fv W
  go_enter Tryd.func62, Tryd.ntmps62
  go_wp2_with (go_at_call 73; refine (HX _).mono ?_; rintro e w1 ⟨rfl, hw1⟩; subst hw1)
  go_ret
  exact ⟨rfl, rfl⟩
set_option maxRecDepth 100000 in
set_option maxHeartbeats 2000000 in
theorem existing_own (base : Nat) (v : Value) (l : List Int) (w : World) (hs : base ≤ w.heap.size) (h : Owns base w v l) (hl : l.length ≤ 1000) :
    Calls Tryd.prog 40 #[v] w fun e w' => ∃ v', e = .returned v' ∧ Owns base w' v' (l.filter fun x => !decide (x < 0)) ∧ Below base w w' := by
  rcases owns_cases h with ⟨rfl, rfl⟩ | ⟨g, cap, cur, rfl, hg, hh, h1, h2, h3, h4⟩
  · have HD := fun fv => deleteNone fv w
    go_enter Tryd.func40, Tryd.ntmps40
    go_wp2_with (go_at_call 62; refine (HD _).mono ?_; rintro e w1 ⟨rfl, hw1⟩; subst hw1)
    go_ret
    exact ⟨_, rfl, World.ownsRow_nil _ _ _ _, Below.refl _ _⟩
  · obtain ⟨c, hc⟩ : ∃ c, (l.filter fun x => !decide (x < 0)) = c := ⟨_, rfl⟩
    have hcl : c.length ≤ l.length := by rw [← hc]; exact List.length_filter_le _ _
    have eg : ∀ args w, (callFunc 63 args).run Tryd.prog w = .ok (.enter 63 args) w := enters_of Tryd.func63 (by kernel_rfl) rfl
    have HD := Tryd.slices_DeleteFunc (Value.int .i64) (fun _ => rfl) (fun x => decide (x < 0)) 63 #[] eg 0 (fun _ => by kernel_rfl) g 0 cap l.toArray w
      (fun W x _ => pos_gives x W) (fun n os dk x _ => pos_gives x _) (holds_of_blockI hh h4) (by simp; omega) (by simpa using h1)
    rw [show (l.toArray.toList.filter fun x => !decide (x < 0)) = c from hc] at HD
    have HD2 : Hid (Calls Tryd.prog 62 #[.slice (some ⟨g, 0, none⟩) l.length cap, .func (.func 63) #[] #[]] w fun e w' => e = .returned (.slice (some ⟨g, 0, none⟩) c.length cap) ∧ Owns base w' (.slice (some ⟨g, 0, none⟩) c.length cap) c ∧ Below base w w') := Lib.hid (by
      refine (Calls.mono (by simpa using HD) ?_)
      rintro e w' ⟨he, q, rfl⟩
      refine ⟨he, ?_, ?_⟩
      · have := owns_put (os := #[]) (n := q) (l := l) (m := c) (z := List.replicate (l.length - c.length) 0) (by simp; omega) hg hh (by omega) h2 h3
        rw [grow_empty] at this
        simpa using this
      · have b2 := below_put (n := q) (os := #[]) hg hs (c ++ List.replicate (l.length - c.length) 0).toArray
        rw [grow_empty] at b2
        simpa using b2)
    rw [hc]
    clear HD hh h4 h3 hc eg
    go_enter Tryd.func40, Tryd.ntmps40
    go_wp2_with (go_at_call 62; refine HD2.out.mono ?_; rintro e w1 ⟨rfl, ho, hb⟩)
    go_ret
    exact ⟨_, rfl, ho, hb⟩
end Go.Proofs.YtekfhgldebhigaaDoor
