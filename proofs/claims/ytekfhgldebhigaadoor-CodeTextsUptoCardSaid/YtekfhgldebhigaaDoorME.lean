/-
  Plain mathematics: a list sorted and without repetitions is the increasing list of its members. No program text is reached here.
-/
import Derived.Test.YtekfhgldebhigaaDoorMD
import Derived.Lib.SlicesCompact
set_option linter.all false
namespace Go.Proofs.YtekfhgldebhigaaDoor.C
open Go Go.RowKit Go.Lib
theorem inc_unique : ∀ {l m : List Int}, l.Pairwise (· < ·) → m.Pairwise (· < ·) → (∀ x, x ∈ l ↔ x ∈ m) → l = m
  | [], [], _, _, _ => rfl
  | [], b :: m, _, _, h => absurd ((h b).2 (by simp)) (by simp)
  | a :: l, [], _, _, h => absurd ((h a).1 (by simp)) (by simp)
  | a :: l, b :: m, hl, hm, h => by
    rw [List.pairwise_cons] at hl hm
    have hab : a = b := by
      rcases List.mem_cons.1 ((h a).1 (by simp)) with e | e
      · exact e
      · rcases List.mem_cons.1 ((h b).2 (by simp)) with e' | e'
        · exact e'.symm
        · have := hm.1 a e; have := hl.1 b e'; omega
    subst hab
    congr 1
    refine inc_unique hl.2 hm.2 fun x => ?_
    constructor
    · intro hx
      rcases List.mem_cons.1 ((h x).1 (List.mem_cons_of_mem _ hx)) with e | e
      · have := hl.1 x hx; omega
      · exact e
    · intro hx
      rcases List.mem_cons.1 ((h x).2 (List.mem_cons_of_mem _ hx)) with e | e
      · have := hm.1 x hx; omega
      · exact e
theorem mem_compact {l : List Int} (x : Int) : x ∈ compact l ↔ x ∈ l := by
  unfold compact compactUpTo
  simp only [List.mem_map, List.mem_filter, List.mem_range]
  constructor
  · rintro ⟨i, ⟨hi, _⟩, rfl⟩
    rw [getElem!_pos _ i (by simpa using hi)]
    simp
  · intro hx
    obtain ⟨i, hi, he⟩ := List.mem_iff_getElem.1 hx
    induction i using Nat.strongRecOn with
    | ind i ih =>
      have e1 : l.toArray[i]! = l[i] := by rw [getElem!_pos _ i (by simpa using hi)]; simp
      by_cases hk : keeps l.toArray i = true
      · exact ⟨i, ⟨hi, hk⟩, by rw [e1, he]⟩
      · have h2 : i ≠ 0 ∧ l.toArray[i]! = l.toArray[i - 1]! := by
          simp [keeps] at hk
          refine ⟨hk.1, ?_⟩
          have := hk.2
          simpa using this
        have e2 : l.toArray[i - 1]! = l[i - 1]'(by omega) := by rw [getElem!_pos _ (i - 1) (by simp; omega)]; simp
        exact ih (i - 1) (by omega) (by omega) (by rw [← e2, ← h2.2, e1, he])
theorem inc_compact {l : List Int} (h : l.Pairwise (· ≤ ·)) : (compact l).Pairwise (· < ·) := by
  unfold compact compactUpTo
  rw [List.pairwise_map]
  have hr : ((List.range l.length).filter (keeps l.toArray)).Pairwise (· < ·) := List.Pairwise.filter _ List.pairwise_lt_range
  refine List.Pairwise.imp_of_mem (R := (· < ·)) (fun {a b} ha hb hab => ?_) hr
  have ha1 := (List.mem_filter.1 ha).1
  have hb1 := List.mem_filter.1 hb
  rw [List.mem_range] at ha1
  have hb0 := List.mem_range.1 hb1.1
  have hb2 := hb1.2
  have hb3 : b = 0 ∨ ¬ l.toArray[b]! = l.toArray[b - 1]! := by simpa [keeps] using hb2
  have key : ∀ i j (hi : i < l.length) (hj : j < l.length), i ≤ j → l[i] ≤ l[j] := by
    intro i j hi hj hij
    rcases Nat.lt_or_ge i j with c | c
    · exact (List.pairwise_iff_getElem.1 h) i j hi hj c
    · have : i = j := by omega
      subst this; exact Int.le_refl _
  rw [getElem!_pos _ a (by simpa using ha1), getElem!_pos _ b (by simpa using hb0)]
  rcases hb3 with e | hne
  · omega
  · rw [getElem!_pos _ b (by simpa using hb0), getElem!_pos _ (b - 1) (by simp; omega)] at hne
    have k1 := key a (b - 1) ha1 (by omega) (by omega)
    have k2 := key (b - 1) b (by omega) hb0 (by omega)
    simp only [List.getElem_toArray] at hne ⊢
    omega
def sortU (l : List Int) : List Int := compact (l.mergeSort fun x y => decide (x ≤ y))
theorem sortU_eq (l : List Int) : sortU l = insAll [] l := by
  refine inc_unique (inc_compact ?_) (insAll_inc l [] List.Pairwise.nil) fun x => ?_
  · have := List.pairwise_mergeSort (le := fun x y : Int => decide (x ≤ y)) (fun a b c h1 h2 => by simp at *; omega) (fun a b => by simp; omega) l
    exact this.imp (fun h => by simpa using h)
  · show x ∈ compact _ ↔ _
    rw [mem_compact, insAll_mem]
    simp [List.mem_mergeSort]
theorem insAll_congr {l m : List Int} (h : ∀ x, x ∈ l ↔ x ∈ m) : insAll [] l = insAll [] m :=
  inc_unique (insAll_inc l [] List.Pairwise.nil) (insAll_inc m [] List.Pairwise.nil) fun x => by rw [insAll_mem, insAll_mem, h]
theorem sortU_nil : sortU [] = [] := by rw [sortU_eq]; rfl
end Go.Proofs.YtekfhgldebhigaaDoor.C
