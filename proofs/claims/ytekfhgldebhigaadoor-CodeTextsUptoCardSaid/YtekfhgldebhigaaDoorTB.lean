/-
  The walks of strings.Builder's copyCheck and WriteString.
-/
import Derived.Test.YtekfhgldebhigaaDoorTA
import Derived.Test.YtekfhgldebhigaaDoorOB
import Derived.Test.YtekfhgldebhigaaDoorShelf
import Derived.Lib.Builder
import Derived.Lib.AppendStr
import Derived.Laws.Externs
import Derived.Lib.Hide
import Derived.WalkKit
set_option linter.all false
namespace Go.Proofs.YtekfhgldebhigaaDoor
open Go.RowKit C
theorem infoBld : (Tryd.prog.info? 50).map (·.size) = some 2 := by kernel_rfl
theorem infoByt : (Tryd.prog.info? 5).map (fun i => (i.zero, i.size, i.bytes)) = some (some (.int .u8 0), 1, 1) := by kernel_rfl
theorem liesBld : liesAt Tryd.prog Tryd.prog.depth 50 (2 / Tryd.prog.cellsOf 50) 0 50 1 = true := by kernel_rfl
set_option maxRecDepth 100000 in
set_option maxHeartbeats 1000000 in
theorem check_used (b : Nat) (w : World) (h0 : w.cell? ⟨b, 0, none⟩ = some (.pointer (some ⟨b, 0, none⟩))) :
    Calls Tryd.prog 50 #[.pointer (some ⟨b, 0, none⟩)] w fun e w' => e = .returned (.tuple #[]) ∧ w = w' := by
  obtain ⟨j, hj, _⟩ := Option.map_eq_some_iff.1 infoBld
  go_enter Tryd.func50, Tryd.ntmps50
  go_wp2
  rw [Lib.run_neq_ptr_same w _ Tryd.underlying47 hj]
  go_wp2
  go_end0
  exact ⟨rfl, rfl⟩
set_option maxRecDepth 100000 in
set_option maxHeartbeats 1000000 in
theorem check_fresh (b : Nat) (w : World) (h0 : w.cell? ⟨b, 0, none⟩ = some (.pointer none)) (hsh : w.shape? b = some (50, 2)) (hfz : w.frozen? ⟨b, 0, none⟩ = false) :
    Calls Tryd.prog 50 #[.pointer (some ⟨b, 0, none⟩)] w fun e w' => e = .returned (.tuple #[]) ∧ w' = w.setCell ⟨b, 0, none⟩ (.pointer (some ⟨b, 0, none⟩)) := by
  obtain ⟨j, hj, hjs⟩ := Option.map_eq_some_iff.1 infoBld
  go_enter Tryd.func50, Tryd.ntmps50
  go_wp2
  rw [Lib.run_to_unsafe w ⟨b, 0, none⟩ Tryd.underlying47 Tryd.underlying86 hj (by rw [hjs]; decide) hsh (Nat.zero_lt_succ 1)]
  simp only [Result.andThen]
  rw [Oper.upon_value]
  go_wp2
  rw [run_callFunc_extern Tryd.func65 (by kernel_rfl) (by kernel_rfl) (by kernel_rfl) (e := Extern.AbiNoEscape.same) (by kernel_rfl)]
  rw [Lib.run_noEscape]
  simp only [Result.andThen]
  rw [Oper.upon_value]
  go_wp2
  rw [Lib.run_from_unsafe w ⟨b, 0, none⟩ Tryd.underlying86 Tryd.underlying47 hj hsh liesBld]
  simp only [Result.andThen]
  rw [Oper.upon_value]
  go_wp2
  go_end0
  exact ⟨rfl, rfl⟩
/-- Blocks of other types than bytes and builders stand. -/
def Kp (w w' : World) : Prop := ∀ (k : Nat) (cs : Array Value) (t : TypeId), t ≠ 5 → t ≠ 50 → w.heap[k]? = some (Obj.cells cs t (0, 0)) → w'.heap[k]? = some (Obj.cells cs t (0, 0))
theorem Kp.refl (w : World) : Kp w w := fun _ _ _ _ _ h => h
theorem Kp.trans {a b c : World} (h : Kp a b) (k : Kp b c) : Kp a c := fun i cs t h1 h2 hi => k i cs t h1 h2 (h i cs t h1 h2 hi)
theorem Kp.set_ {w : World} {b : Nat} {c : Array Value} {fr : Nat × Nat} (hb : w.heap[b]? = some (.cells c 50 fr)) (i : Nat) (u : Value) : Kp w (w.setCell ⟨b, i, none⟩ u) := fun k cs t _ h2 hk => by
  have hne : k ≠ b := by
    rintro rfl
    rw [hb] at hk
    injection hk with hk
    injection hk with _ h3
    exact h2 h3.symm
  rw [Below.heap_setCell w ⟨b, i, none⟩ u k hne]; exact hk
theorem Kp.alloc (w : World) (o : Obj) : Kp w (w.alloc o) := fun k _ _ _ _ hk => (Below.heap_alloc w o k (Array.getElem?_eq_some_iff.1 hk).1).trans hk
theorem Kp.below {w w' : World} (h : Below w.heap.size w w') : Kp w w' := fun k _ _ _ _ hk => (h.block k (Array.getElem?_eq_some_iff.1 hk).1).trans hk
theorem Kp.grown {w w' : World} {B n : Nat} {v : Value} {xs : List Value} (hown : w.ownsRow B 5 1 v n xs) (hg : w.grownBy w' v.ownBlock) : Kp w w' := fun k cs t h1 _ hk => by
  refine (hg.block k (Array.getElem?_eq_some_iff.1 hk).1 (fun e => ?_)).trans hk
  rcases hown.2 with ⟨rfl, _⟩ | ⟨g, c, cur, rfl, _, hgg, _⟩
  · cases e
  · injection e with e
    have e2 : k = g := e
    subst e2
    rw [hgg] at hk
    injection hk with hk
    injection hk with _ h2
    exact h1 h2.symm
theorem check_any (B b : Nat) (bs : List Value) (w : World) (h : Lib.IsBuilder 50 5 B b bs w) :
    Calls Tryd.prog 50 #[.pointer (some ⟨b, 0, none⟩)] w fun e w' => e = .returned (.tuple #[]) ∧ Lib.BuilderAt 50 5 B b (.pointer (some ⟨b, 0, none⟩)) bs w' ∧ Below B w w' ∧ Kp w w' := by
  rcases h with h | h
  · refine (check_fresh b w h.cell0 h.shape h.frozen0).mono ?_
    rintro e w' ⟨rfl, rfl⟩
    exact ⟨rfl, h.used _, (Below.refl B w).setCell (p := ⟨b, 0, none⟩) h.1 _, by obtain ⟨_, _, hbk, _⟩ := h; exact Kp.set_ hbk 0 _⟩
  · refine (check_used b w h.cell0).mono ?_
    rintro e w' ⟨rfl, rfl⟩
    exact ⟨rfl, h, Below.refl B _, Kp.refl _⟩
theorem at_facts {B b : Nat} {bs : List Value} {w : World} (h : Lib.BuilderAt 50 5 B b (.pointer (some ⟨b, 0, none⟩)) bs w) :
    ∃ A cap, w.heap[b]? = some (.cells #[.pointer (some ⟨b, 0, none⟩), .slice A bs.length cap] 50 (0, 0)) ∧ w.ownsRow B 5 1 (.slice A bs.length cap) bs.length bs ∧ (Value.slice A bs.length cap).ownBlock ≠ some b ∧ B ≤ b ∧
      w.cell? ⟨b, 0, none⟩ = some (.pointer (some ⟨b, 0, none⟩)) ∧ w.cell? ⟨b, 1, none⟩ = some (.slice A bs.length cap) ∧ b < w.heap.size := by
  obtain ⟨hB, v, hbk, hown, hne⟩ := h
  obtain ⟨A, cap, rfl⟩ : ∃ A cap, v = .slice A bs.length cap := by
    rcases hown.2 with ⟨hv, h0⟩ | ⟨g, c, cur, hv, _⟩
    · exact ⟨none, 0, by rw [hv, h0]⟩
    · exact ⟨_, _, hv⟩
  exact ⟨A, cap, hbk, hown, hne, hB, by simp [World.cell?, hbk], by simp [World.cell?, hbk], (Array.getElem?_eq_some_iff.1 hbk).1⟩
theorem put_back {b : Nat} {bs : List Value} {w1 w2 : World} {A : Option Addr} {cap : Nat} (hbk : w1.heap[b]? = some (.cells #[.pointer (some ⟨b, 0, none⟩), .slice A bs.length cap] 50 (0, 0)))
    (hne : (Value.slice A bs.length cap).ownBlock ≠ some b) (hgr : w1.grownBy w2 (Value.slice A bs.length cap).ownBlock) :
    w2.heap[b]? = some (.cells #[.pointer (some ⟨b, 0, none⟩), .slice A bs.length cap] 50 (0, 0)) ∧ w2.cell? ⟨b, 0, none⟩ = some (.pointer (some ⟨b, 0, none⟩)) ∧ w2.cell? ⟨b, 1, none⟩ = some (.slice A bs.length cap) ∧ w2.frozen? ⟨b, 1, none⟩ = false := by
  have h2 : w2.heap[b]? = _ := (hgr.block b (Array.getElem?_eq_some_iff.1 hbk).1 (fun e => hne e.symm)).trans hbk
  exact ⟨h2, by simp [World.cell?, h2], by simp [World.cell?, h2], by simp [World.frozen?, h2]⟩
theorem slice_form {w : World} {base e size n : Nat} {v : Value} {xs : List Value} (h : w.ownsRow base e size v n xs) : ∃ A n' cap, v = .slice A n' cap := by
  rcases h.2 with ⟨hv, _⟩ | ⟨g, c, cur, hv, _⟩
  · exact ⟨_, _, _, hv⟩
  · exact ⟨_, _, _, hv⟩
theorem byteCells_append (l m : Bs) : Lib.byteCells (l ++ m) = Lib.byteCells l ++ Lib.byteCells m := by simp [Lib.byteCells]
theorem strCells_eq (s : ByteArray) : Lib.strCells s = Lib.byteCells s.data.toList := by
  first | rfl | (simp [Lib.strCells, Lib.byteCells])
theorem byteCells_len (l : Bs) : (Lib.byteCells l).length = l.length := by simp [Lib.byteCells]
abbrev lim : Nat := 140737488355328
set_option maxRecDepth 100000 in
set_option maxHeartbeats 1000000 in
theorem writeString_raw (B b : Nat) (bs : List Value) (s : ByteArray) (w : World) (h : Lib.IsBuilder 50 5 B b bs w) (hlen : bs.length + s.size ≤ 140737488355328) (hBw : B ≤ w.heap.size) :
    Calls Tryd.prog 20 #[.pointer (some ⟨b, 0, none⟩), .string s] w fun e w' => e = .returned (.tuple #[.int .i64 s.size, .nilIface]) ∧ Lib.BuilderAt 50 5 B b (.pointer (some ⟨b, 0, none⟩)) (bs ++ Lib.strCells s) w' ∧ Below B w w' ∧ Kp w w' := by
  obtain ⟨i0, hi, hz0, hz1, hz2⟩ := info_parts infoByt
  have H := Lib.hid h
  clear h
  go_enter Tryd.func20, Tryd.ntmps20
  go_wp2_with fail
  refine (check_any B b bs _ H.out).mono ?_
  rintro e w1 ⟨rfl, h1, hb1, hk33⟩
  have HK33 := Lib.hid hk33
  clear hk33
  obtain ⟨A, cap, hbk, hown, hne, hB, c0, c1, hlt⟩ := at_facts h1
  have HK := Lib.hid hbk
  have HO := Lib.hid hown
  have HN := Lib.hid hne
  have HB1 := Lib.hid hb1
  clear hbk hown hne hb1 h1
  have hsz := HB1.out.size
  go_wp2_with (at_builtin; refine Lib.wpList_append_own_string _ rfl _ _ 48 9 rfl B 5 i0 Tryd.underlying48 Tryd.underlying9 hi hz0 hz1 hz2 _ _ _ rfl HO.out s rfl (by unfold maxLen; omega) (by omega) (by omega) ?_; intro v' w2 hown' hgrow _; obtain ⟨A2, n2, cap2, rfl⟩ := slice_form hown'; obtain ⟨k0, k1, k2, k3⟩ := put_back HK.out HN.out hgrow; have R0 := Lib.hid k0; have R1 := Lib.hid hown'; have R2 := Lib.hid hgrow; clear k0 hown' hgrow)
  go_ret2
  refine ⟨rfl, Lib.BuilderAt.put (T := 50) (e := 5) hB R0.out (bs' := bs ++ Lib.strCells s) (by simpa [Lib.strCells_length] using R1.out) (by decide), ?_, HK33.out.trans ((Kp.grown HO.out R2.out).trans (Kp.set_ R0.out 1 _))⟩
  exact (HB1.out.grown R2.out (by omega) (fun k hk => (HO.out.lt k hk).1)).setCell (p := ⟨b, 1, none⟩) hB _
theorem builder_keep {B b : Nat} {bs : List Value} {w w' : World} (h : Lib.IsBuilder 50 5 B b bs w) (hb : Below w.heap.size w w') : Lib.IsBuilder 50 5 B b bs w' := by
  have key : ∀ p, Lib.BuilderAt 50 5 B b p bs w → Lib.BuilderAt 50 5 B b p bs w' := by
    rintro p ⟨hB, v, hbk, hown, hne⟩
    refine ⟨hB, v, (hb.block b (Array.getElem?_eq_some_iff.1 hbk).1).trans hbk, hown.kept (row := none) ⟨hb.os, hb.tape, hb.output, hb.size, fun k hk _ => hb.block k hk⟩ ?_, hne⟩
    cases hv : v.ownBlock <;> simp
  rcases h with h | h
  · exact .inl (key _ h)
  · exact .inr (key _ h)
/-- A builder that holds bytes, above B. -/
structure Bd (w : World) (B b : Nat) (l : Bs) : Prop where
  is : Lib.IsBuilder 50 5 B b (Lib.byteCells l) w
  hB : B ≤ w.heap.size
theorem Bd.keep {w w' : World} {B b : Nat} {l : Bs} (h : Bd w B b l) (hb : Below w.heap.size w w') : Bd w' B b l := ⟨builder_keep h.is hb, Nat.le_trans h.hB hb.size⟩
theorem Bd.new (w : World) : Bd (w.alloc (.cells #[.pointer none, .slice none 0 0] 50)) w.heap.size w.heap.size [] :=
  ⟨.inl ⟨Nat.le_refl _, _, heap_alloc_new w _, World.ownsRow_nil _ _ _ _, by simp [Value.ownBlock]⟩, by simp⟩
theorem write_any (B b : Nat) (l : Bs) (s : ByteArray) (w : World) (h : Bd w B b l) (hlen : l.length + s.data.toList.length ≤ lim) :
    Calls Tryd.prog 20 #[.pointer (some ⟨b, 0, none⟩), .string s] w fun e w' => (∃ v, e = .returned v) ∧ Bd w' B b (l ++ s.data.toList) ∧ Below B w w' ∧ Kp w w' := by
  refine (writeString_raw B b (Lib.byteCells l) s w h.is (by rw [byteCells_len]; exact hlen) h.hB).mono ?_
  rintro e w' ⟨rfl, h1, h2, h3⟩
  refine ⟨⟨_, rfl⟩, ⟨.inr ?_, Nat.le_trans h.hB h2.size⟩, h2, h3⟩
  rw [byteCells_append, ← strCells_eq]; exact h1
theorem string_any (B b : Nat) (l : Bs) (w : World) (h : Bd w B b l) :
    Calls Tryd.prog 23 #[.pointer (some ⟨b, 0, none⟩)] w fun e w' => e = .returned (.string ⟨l.toArray⟩) ∧ Below B w w' := Tryd.Builder_String_any B b l w h.is h.hB
end Go.Proofs.YtekfhgldebhigaaDoor
