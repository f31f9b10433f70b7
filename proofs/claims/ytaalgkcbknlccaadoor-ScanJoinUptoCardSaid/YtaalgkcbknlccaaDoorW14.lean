/-
  The walk of slices.IndexFunc at tokens.
-/
import Derived.Test.YtaalgkcbknlccaaDoorW13
namespace Go.Proofs.YtaalgkcbknlccaaDoor
open Go.RowKit M

theorem cells_length (l : List Tok) : (cells l).length = l.length * 3 := by
  induction l with
  | nil => rfl
  | cons t l ih => simp [cells, cell1] at *; omega
theorem cells_get (l : List Tok) (i : Nat) (h : i < l.length) :
    (cells l)[i * 3]? = some (.int .i64 (l[i].k : Int)) ∧ (cells l)[i * 3 + 1]? = some (.string ⟨l[i].t.toArray⟩) ∧ (cells l)[i * 3 + 2]? = some (.int .i64 (l[i].a : Int)) := by
  induction l generalizing i with
  | nil => simp at h
  | cons t l ih =>
    have e : cells (t :: l) = .int .i64 (t.k : Int) :: .string ⟨t.t.toArray⟩ :: .int .i64 (t.a : Int) :: cells l := by simp [cells, cell1]
    rw [e]
    cases i with
    | zero => simp
    | succ i =>
      have := ih i (by simpa using h)
      have e2 : (i + 1) * 3 = i * 3 + 3 := by omega
      rw [e2]
      simpa using this

/-- In w, block g holds the tokens l from its head on. -/
def Lies (w : World) (g : Nat) (l : List Tok) : Prop :=
  ∀ i (h : i < l.length), w.cell? ⟨g, i * 3, none⟩ = some (.int .i64 (l[i].k : Int)) ∧ w.cell? ⟨g, i * 3 + 1, none⟩ = some (.string ⟨l[i].t.toArray⟩) ∧ w.cell? ⟨g, i * 3 + 2, none⟩ = some (.int .i64 (l[i].a : Int))
theorem lies_of {w : World} {base g n cap : Nat} {l : List Tok} (h : w.ownsRow base 33 3 (.slice (some ⟨g, 0, none⟩) n cap) n (cells l)) : Lies w g l := by
  intro i hi
  have hc := h.cells (g := g) rfl
  have hadd : ∀ j, (⟨g, 0, none⟩ : Addr).add j = ⟨g, j, none⟩ := fun j => by unfold Addr.add; split <;> simp_all
  obtain ⟨h1, h2, h3⟩ := cells_get l i hi
  exact ⟨by rw [← hadd]; exact hc _ _ h1, by rw [← hadd]; exact hc _ _ h2, by rw [← hadd]; exact hc _ _ h3⟩
theorem Lies.below {w w' : World} {B g : Nat} {l : List Tok} (h : Lies w g l) (hb : Below B w w') (hg : g < B) : Lies w' g l := fun i hi =>
  ⟨(hb.cell (p := ⟨g, i * 3, none⟩) hg).trans (h i hi).1, (hb.cell (p := ⟨g, i * 3 + 1, none⟩) hg).trans (h i hi).2.1, (hb.cell (p := ⟨g, i * 3 + 2, none⟩) hg).trans (h i hi).2.2⟩

/-- A function value that tells tokens apart by their kind. -/
def Pred (F : Nat) (p : Nat → Bool) : Prop := ∀ (k : Nat) (t : ByteArray) (a : Nat) (w : World), Calls Tryd.prog F #[tv k t a] w fun e w' => e = .returned (.bool (p k)) ∧ Below w.heap.size w w'
theorem pred24 : Pred 24 (· == 5) := comment_any
theorem pred26 : Pred 26 (fun k => !(k == 5)) := nocomment_any

set_option maxRecDepth 100000 in
set_option maxHeartbeats 1000000 in
theorem index_none_24 (p : Nat → Bool) (hp : Pred 24 p) (g cap : Nat) (l : List Tok) (w : World) (hl : l.length ≤ 20000) (hg : g < w.heap.size) (h : Lies w g l) (hno : ∀ i (h : i < l.length), p l[i].k = false) :
    Calls Tryd.prog 32 #[.slice (some ⟨g, 0, none⟩) l.length cap, .func (.func 24) #[] #[]] w fun e w' => e = .returned (.int .i64 (-1)) ∧ Below w.heap.size w w' := by
  have H := Lib.hid h
  have HN := Lib.hid hno
  have HP := Lib.hid hp
  clear h hno hp
  go_enter Tryd.func32, Tryd.ntmps32
  go_wp2
  go_loopw [8] (fun i wr => ∃ k : Nat, k ≤ l.length ∧ i = .int .i64 k ∧ Below w.heap.size w wr) (fun i _ => l.length - (intOf i).toNat)
  case atStart => exact ⟨0, Nat.zero_le _, rfl, Below.refl _ _⟩
  case round =>
    obtain ⟨k, hk, rfl, hb⟩ := hrel
    by_cases hkl : k < l.length
    · obtain ⟨c0, c1, c2⟩ := (H.out.below hb hg) k hkl
      have hn := HN.out k hkl
      generalize l[k] = t at *
      have hk1 : (k : Int) < (l.length : Int) := by omega
      have HB := Lib.hid hb
      have hn2 := Lib.hid hn
      clear hb hn
      go_wp2_with fail
      refine (HP.out _ _ _ _).mono ?_
      rintro e w2 ⟨rfl, hb2⟩
      rw [hn2.out]
      go_wp2_with fail
      go_roundw
      case rel => exact ⟨k + 1, by omega, by go_num, HB.out.trans (hb2.mono HB.out.size)⟩
      case measure => simp [intOf]; omega
    · obtain rfl : k = l.length := by omega
      have hd : decide ((l.length : Int) < (l.length : Int)) = false := by simp
      go_wp2
      go_ret
      exact ⟨rfl, hb⟩

set_option maxRecDepth 100000 in
set_option maxHeartbeats 1000000 in
theorem index_some_24 (p : Nat → Bool) (hp : Pred 24 p) (g cap j : Nat) (l : List Tok) (w : World) (hl : l.length ≤ 20000) (hg : g < w.heap.size) (h : Lies w g l) (hj : j < l.length) (hno : ∀ i (h : i < l.length), i < j → p l[i].k = false) (hyes : p l[j].k = true) :
    Calls Tryd.prog 32 #[.slice (some ⟨g, 0, none⟩) l.length cap, .func (.func 24) #[] #[]] w fun e w' => e = .returned (.int .i64 (j : Int)) ∧ Below w.heap.size w w' := by
  have H := Lib.hid h
  have HN := Lib.hid hno
  have HP := Lib.hid hp
  have HY := Lib.hid hyes
  clear h hno hp hyes
  go_enter Tryd.func32, Tryd.ntmps32
  go_wp2
  go_loopw [8] (fun i wr => ∃ k : Nat, k ≤ j ∧ i = .int .i64 k ∧ Below w.heap.size w wr) (fun i _ => l.length - (intOf i).toNat)
  case atStart => exact ⟨0, Nat.zero_le _, rfl, Below.refl _ _⟩
  case round =>
    obtain ⟨k, hk, rfl, hb⟩ := hrel
    have hkl : k < l.length := by omega
    have hk1 : (k : Int) < (l.length : Int) := by omega
    have HB := Lib.hid hb
    obtain ⟨c0, c1, c2⟩ := (H.out.below hb hg) k hkl
    clear hb
    by_cases hkj : k < j
    · have hn2 := Lib.hid (HN.out k hkl hkj)
      generalize l[k] = t at *
      go_wp2_with fail
      refine (HP.out _ _ _ _).mono ?_
      rintro e w2 ⟨rfl, hb2⟩
      rw [hn2.out]
      go_wp2_with fail
      go_roundw
      case rel => exact ⟨k + 1, by omega, by go_num, HB.out.trans (hb2.mono HB.out.size)⟩
      case measure => simp [intOf]; omega
    · obtain rfl : k = j := by omega
      generalize l[k] = t at *
      go_wp2_with fail
      refine (HP.out _ _ _ _).mono ?_
      rintro e w2 ⟨rfl, hb2⟩
      rw [HY.out]
      go_wp2
      go_ret
      exact ⟨rfl, HB.out.trans (hb2.mono HB.out.size)⟩

set_option maxRecDepth 100000 in
set_option maxHeartbeats 1000000 in
theorem index_none_26 (p : Nat → Bool) (hp : Pred 26 p) (g cap : Nat) (l : List Tok) (w : World) (hl : l.length ≤ 20000) (hg : g < w.heap.size) (h : Lies w g l) (hno : ∀ i (h : i < l.length), p l[i].k = false) :
    Calls Tryd.prog 32 #[.slice (some ⟨g, 0, none⟩) l.length cap, .func (.func 26) #[] #[]] w fun e w' => e = .returned (.int .i64 (-1)) ∧ Below w.heap.size w w' := by
  have H := Lib.hid h
  have HN := Lib.hid hno
  have HP := Lib.hid hp
  clear h hno hp
  go_enter Tryd.func32, Tryd.ntmps32
  go_wp2
  go_loopw [8] (fun i wr => ∃ k : Nat, k ≤ l.length ∧ i = .int .i64 k ∧ Below w.heap.size w wr) (fun i _ => l.length - (intOf i).toNat)
  case atStart => exact ⟨0, Nat.zero_le _, rfl, Below.refl _ _⟩
  case round =>
    obtain ⟨k, hk, rfl, hb⟩ := hrel
    by_cases hkl : k < l.length
    · obtain ⟨c0, c1, c2⟩ := (H.out.below hb hg) k hkl
      have hn := HN.out k hkl
      generalize l[k] = t at *
      have hk1 : (k : Int) < (l.length : Int) := by omega
      have HB := Lib.hid hb
      have hn2 := Lib.hid hn
      clear hb hn
      go_wp2_with fail
      refine (HP.out _ _ _ _).mono ?_
      rintro e w2 ⟨rfl, hb2⟩
      rw [hn2.out]
      go_wp2_with fail
      go_roundw
      case rel => exact ⟨k + 1, by omega, by go_num, HB.out.trans (hb2.mono HB.out.size)⟩
      case measure => simp [intOf]; omega
    · obtain rfl : k = l.length := by omega
      have hd : decide ((l.length : Int) < (l.length : Int)) = false := by simp
      go_wp2
      go_ret
      exact ⟨rfl, hb⟩

set_option maxRecDepth 100000 in
set_option maxHeartbeats 1000000 in
theorem index_some_26 (p : Nat → Bool) (hp : Pred 26 p) (g cap j : Nat) (l : List Tok) (w : World) (hl : l.length ≤ 20000) (hg : g < w.heap.size) (h : Lies w g l) (hj : j < l.length) (hno : ∀ i (h : i < l.length), i < j → p l[i].k = false) (hyes : p l[j].k = true) :
    Calls Tryd.prog 32 #[.slice (some ⟨g, 0, none⟩) l.length cap, .func (.func 26) #[] #[]] w fun e w' => e = .returned (.int .i64 (j : Int)) ∧ Below w.heap.size w w' := by
  have H := Lib.hid h
  have HN := Lib.hid hno
  have HP := Lib.hid hp
  have HY := Lib.hid hyes
  clear h hno hp hyes
  go_enter Tryd.func32, Tryd.ntmps32
  go_wp2
  go_loopw [8] (fun i wr => ∃ k : Nat, k ≤ j ∧ i = .int .i64 k ∧ Below w.heap.size w wr) (fun i _ => l.length - (intOf i).toNat)
  case atStart => exact ⟨0, Nat.zero_le _, rfl, Below.refl _ _⟩
  case round =>
    obtain ⟨k, hk, rfl, hb⟩ := hrel
    have hkl : k < l.length := by omega
    have hk1 : (k : Int) < (l.length : Int) := by omega
    have HB := Lib.hid hb
    obtain ⟨c0, c1, c2⟩ := (H.out.below hb hg) k hkl
    clear hb
    by_cases hkj : k < j
    · have hn2 := Lib.hid (HN.out k hkl hkj)
      generalize l[k] = t at *
      go_wp2_with fail
      refine (HP.out _ _ _ _).mono ?_
      rintro e w2 ⟨rfl, hb2⟩
      rw [hn2.out]
      go_wp2_with fail
      go_roundw
      case rel => exact ⟨k + 1, by omega, by go_num, HB.out.trans (hb2.mono HB.out.size)⟩
      case measure => simp [intOf]; omega
    · obtain rfl : k = j := by omega
      generalize l[k] = t at *
      go_wp2_with fail
      refine (HP.out _ _ _ _).mono ?_
      rintro e w2 ⟨rfl, hb2⟩
      rw [HY.out]
      go_wp2
      go_ret
      exact ⟨rfl, HB.out.trans (hb2.mono HB.out.size)⟩

end Go.Proofs.YtaalgkcbknlccaaDoor
