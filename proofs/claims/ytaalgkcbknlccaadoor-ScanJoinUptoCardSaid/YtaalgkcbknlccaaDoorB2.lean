/-
  The walk of Join.
-/
import Derived.Test.YtaalgkcbknlccaaDoorB1
import Derived.Test.YtaalgkcbknlccaaDoorR7
namespace Go.Proofs.YtaalgkcbknlccaaDoor
open Go.RowKit M

/-- In w, block g holds from off on structs whose texts are ts. -/
def Texts (w : World) (g off : Nat) (ts : List ByteArray) : Prop :=
  ∀ i (h : i < ts.length), ∃ x y : Int, w.cell? ⟨g, off + i * 3, none⟩ = some (.int .i64 x) ∧ w.cell? ⟨g, off + i * 3 + 1, none⟩ = some (.string ts[i]) ∧ w.cell? ⟨g, off + i * 3 + 2, none⟩ = some (.int .i64 y)
theorem Texts.below {w w' : World} {B g off : Nat} {ts : List ByteArray} (h : Texts w g off ts) (hb : Below B w w') (hg : g < B) : Texts w' g off ts := fun i hi => by
  obtain ⟨x, y, h0, h1, h2⟩ := h i hi
  exact ⟨x, y, (hb.cell (p := ⟨g, off + i * 3, none⟩) hg).trans h0, (hb.cell (p := ⟨g, off + i * 3 + 1, none⟩) hg).trans h1, (hb.cell (p := ⟨g, off + i * 3 + 2, none⟩) hg).trans h2⟩

/-- The texts with a blank between each two: behind k of them. -/
def joinK (ts : List ByteArray) : Nat → Bs
  | 0 => []
  | k + 1 => joinK ts k ++ (if k = 0 then [] else [32]) ++ (ts.getD k ⟨#[]⟩).data.toList
def joined (ts : List ByteArray) : Bs := joinK ts ts.length
def total (ts : List ByteArray) : Nat := (ts.map (·.size)).sum
theorem total_app (a b : List ByteArray) : total (a ++ b) = total a + total b := by simp [total]
theorem total_one (x : ByteArray) : total [x] = x.size := by simp [total]
theorem joinK_len (ts : List ByteArray) (k : Nat) (hk : k ≤ ts.length) : (joinK ts k).length ≤ total (ts.take k) + k := by
  induction k with
  | zero => simp [joinK]
  | succ k ih =>
    have h := ih (by omega)
    have hkl : k < ts.length := by omega
    rw [joinK, List.length_append, List.length_append, List.take_succ_eq_append_getElem hkl]
    have e : (ts.getD k ⟨#[]⟩) = ts[k] := by simp [List.getD, List.getElem?_eq_getElem hkl]
    rw [e, ← size_list]
    have e2 : total (ts.take k ++ [ts[k]]) = total (ts.take k) + ts[k].size := by rw [total_app, total_one]
    rw [e2]
    have e3 : (if k = 0 then ([] : Bs) else [32]).length ≤ 1 := by split <;> simp
    omega
theorem total_take (ts : List ByteArray) (k : Nat) : total (ts.take k) ≤ total ts := by
  have e := List.take_append_drop k ts
  have : total ts = total (ts.take k) + total (ts.drop k) := by
    rw [← total_app, e]
  omega

theorem builder_keep {B b : Nat} {bs : List Value} {w w' : World} (h : Lib.IsBuilder 44 5 B b bs w) (hb : Below w.heap.size w w') : Lib.IsBuilder 44 5 B b bs w' := by
  have key : ∀ p, Lib.BuilderAt 44 5 B b p bs w → Lib.BuilderAt 44 5 B b p bs w' := by
    rintro p ⟨hB, v, hbk, hown, hne⟩
    refine ⟨hB, v, (hb.block b (Array.getElem?_eq_some_iff.1 hbk).1).trans hbk, hown.kept (row := none) ⟨hb.os, hb.tape, hb.output, hb.size, fun k hk _ => hb.block k hk⟩ ?_, hne⟩
    cases hv : v.ownBlock <;> simp
  rcases h with h | h
  · exact .inl (key _ h)
  · exact .inr (key _ h)
theorem byteCells_append (l m : Bs) : Lib.byteCells (l ++ m) = Lib.byteCells l ++ Lib.byteCells m := by simp [Lib.byteCells]
theorem strCells_eq (s : ByteArray) : Lib.strCells s = Lib.byteCells s.data.toList := by
  first | rfl | (simp [Lib.strCells, Lib.byteCells])
theorem byteCells_len (l : Bs) : (Lib.byteCells l).length = l.length := by simp [Lib.byteCells]

set_option maxRecDepth 100000 in
set_option maxHeartbeats 1000000 in
theorem join_none (A : Option Addr) (cap : Nat) (w : World) :
    Calls Tryd.prog 19 #[.slice A 0 cap] w fun e w' => e = .returned (.string ⟨#[]⟩) ∧ Below w.heap.size w w' := by
  have H0 : Hid (Lib.IsBuilder 44 5 w.heap.size w.heap.size [] (w.alloc (.cells #[.pointer none, .slice none 0 0] 44))) :=
    .inl ⟨Nat.le_refl _, _, heap_alloc_new w _, World.ownsRow_nil _ _ _ _, by simp [Value.ownBlock]⟩
  go_enter Tryd.func19, Tryd.ntmps19
  go_wp2
  go_loop [8] (fun i => i = .int .i64 0) (fun _ => 0)
  case atStart => rfl
  case round =>
    obtain rfl := hrel
    go_wp2_with fail
    refine (Tryd.Builder_String_any w.heap.size w.heap.size [] _ H0.out (by simp)).mono ?_
    rintro e w2 ⟨rfl, hb⟩
    go_wp2
    go_ret
    exact ⟨rfl, ((Below.refl _ _).alloc (Nat.le_refl _) _).trans hb⟩

set_option maxRecDepth 100000 in
set_option maxHeartbeats 2000000 in
theorem join_some (g off cap : Nat) (ts : List ByteArray) (w : World) (hg : g < w.heap.size) (h : Texts w g off ts) (hl : ts.length ≤ 1000000) (htot : total ts ≤ 140737487355328) :
    Calls Tryd.prog 19 #[.slice (some ⟨g, off, none⟩) ts.length cap] w fun e w' => e = .returned (.string ⟨(joined ts).toArray⟩) ∧ Below w.heap.size w w' := by
  have H0 : Hid (Lib.IsBuilder 44 5 w.heap.size w.heap.size (Lib.byteCells (joinK ts 0)) (w.alloc (.cells #[.pointer none, .slice none 0 0] 44))) :=
    .inl ⟨Nat.le_refl _, _, heap_alloc_new w _, World.ownsRow_nil _ _ _ _, by simp [Value.ownBlock]⟩
  have HT := Lib.hid h
  clear h
  go_enter Tryd.func19, Tryd.ntmps19
  go_wp2
  go_loopw [8] (fun i wr => ∃ k : Nat, k ≤ ts.length ∧ i = .int .i64 k ∧ Lib.IsBuilder 44 5 w.heap.size w.heap.size (Lib.byteCells (joinK ts k)) wr ∧ Below w.heap.size w wr) (fun i _ => ts.length - (intOf i).toNat)
  case atStart => exact ⟨0, Nat.zero_le _, rfl, H0.out, (Below.refl _ _).alloc (Nat.le_refl _) _⟩
  case round =>
    obtain ⟨k, hk, rfl, hbu, hb⟩ := hrel
    have HBU := Lib.hid hbu
    have HB := Lib.hid hb
    have hkb := joinK_len ts k hk
    have hkt := total_take ts k
    clear hbu hb H0
    by_cases hkl : k < ts.length
    · obtain ⟨x, y, d0, d1, d2⟩ := (HT.out.below HB.out hg) k hkl
      have hge : ts.getD k ⟨#[]⟩ = ts[k] := by simp [List.getD, List.getElem?_eq_getElem hkl]
      have hsum : total (ts.take (k + 1)) = total (ts.take k) + ts[k].size := by rw [List.take_succ_eq_append_getElem hkl, total_app, total_one]
      have hkt2 := total_take ts (k + 1)
      have HG := Lib.hid hge
      clear hge
      generalize ts[k] = t at *
      have hk1 : (k : Int) < (ts.length : Int) := by omega
      have hsz := HB.out.size
      by_cases h0 : k = 0
      · subst h0
        simp only [Nat.zero_mul, Nat.add_zero] at d0 d1 d2
        go_wp2_with fail
        refine (writeString_any w.heap.size w.heap.size _ t _ (builder_keep HBU.out ((Below.refl _ _).alloc (Nat.le_refl _) _)) (by rw [byteCells_len]; omega) (by simp; omega)).mono ?_
        rintro e w2 ⟨rfl, hbu2, hb2, _⟩
        have R1 := Lib.hid hbu2
        have R2 := Lib.hid hb2
        clear hbu2 hb2
        go_wp2
        go_roundw
        case rel => exact ⟨1, by omega, by go_num, .inr (by rw [joinK, HG.out]; simpa [strCells_eq, joinK, Lib.byteCells] using R1.out), (HB.out.alloc hsz _).trans R2.out⟩
        case measure => simp [intOf]; omega
      · have hk0 : (0 : Int) < (k : Int) := by omega
        go_wp2_with fail
        refine (writeByte_any w.heap.size w.heap.size _ 32 _ (builder_keep HBU.out ((Below.refl _ _).alloc (Nat.le_refl _) _)) (by rw [byteCells_len]; omega) (by simp; omega)).mono ?_
        rintro e w2 ⟨rfl, hbu2, hb2, hk2⟩
        have R1 := Lib.hid hbu2
        have R2 := Lib.hid hb2
        have hsz2 := hb2.size
        simp at hsz2
        have hq : w2.heap[wr.heap.size]? = _ := hk2 _ _ _ (heap_alloc_new wr _)
        have q1 : w2.cell? ⟨wr.heap.size, 1, none⟩ = some (.string t) := by simp [World.cell?, hq]
        clear hbu2 hb2 hk2 hq d0 d1 d2
        go_wp2_with fail
        refine (writeString_any w.heap.size w.heap.size _ t _ (.inr R1.out) (by rw [List.length_append, byteCells_len]; simp; omega) (by omega)).mono ?_
        rintro e w3 ⟨rfl, hbu3, hb3, _⟩
        have R3 := Lib.hid hbu3
        have R4 := Lib.hid hb3
        clear hbu3 hb3
        have HK0 := Lib.hid h0
        clear h0
        go_wp2
        go_roundw
        case rel => exact ⟨k + 1, by omega, by go_num, .inr (by rw [joinK, HG.out, if_neg HK0.out]; simpa [strCells_eq, Lib.byteCells] using R3.out), ((HB.out.alloc hsz _).trans R2.out).trans R4.out⟩
        case measure => simp [intOf]; omega
    · obtain rfl : k = ts.length := by omega
      have hd : decide ((ts.length : Int) < (ts.length : Int)) = false := by simp
      go_wp2_with fail
      refine (Tryd.Builder_String_any w.heap.size w.heap.size _ _ HBU.out HB.out.size).mono ?_
      rintro e w2 ⟨rfl, hb2⟩
      have R2 := Lib.hid hb2
      clear hb2
      go_wp2
      go_ret
      exact ⟨rfl, HB.out.trans R2.out⟩
end Go.Proofs.YtaalgkcbknlccaaDoor
