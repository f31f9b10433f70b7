/-
  The walks of strings.Builder's copyCheck, WriteByte and WriteString.
-/
import Derived.Test.YtaalgkcbknlccaaDoorW7
import Derived.Lib.Builder
import Derived.Lib.AppendStr
import Derived.Laws.Externs
namespace Go.Proofs.YtaalgkcbknlccaaDoor
open Go.RowKit M

theorem info44 : (Tryd.prog.info? 44).map (·.size) = some 2 := by kernel_rfl
theorem infoByte : (Tryd.prog.info? 5).map (fun i => (i.zero, i.size, i.bytes)) = some (some (.int .u8 0), 1, 1) := by kernel_rfl

theorem lies44 : liesAt Tryd.prog Tryd.prog.depth 44 (2 / Tryd.prog.cellsOf 44) 0 44 1 = true := by kernel_rfl
set_option maxRecDepth 100000 in
set_option maxHeartbeats 1000000 in
theorem check_used (b : Nat) (w : World) (h0 : w.cell? ⟨b, 0, none⟩ = some (.pointer (some ⟨b, 0, none⟩))) :
    Calls Tryd.prog 35 #[.pointer (some ⟨b, 0, none⟩)] w fun e w' => e = .returned (.tuple #[]) ∧ w = w' := by
  obtain ⟨j, hj, _⟩ := Option.map_eq_some_iff.1 info44
  go_enter Tryd.func35, Tryd.ntmps35
  go_wp2
  rw [Lib.run_neq_ptr_same w _ Tryd.underlying42 hj]
  go_wp2
  go_end0
  exact ⟨rfl, rfl⟩
set_option maxRecDepth 100000 in
set_option maxHeartbeats 1000000 in
theorem check_fresh (b : Nat) (w : World) (h0 : w.cell? ⟨b, 0, none⟩ = some (.pointer none)) (hsh : w.shape? b = some (44, 2)) (hfz : w.frozen? ⟨b, 0, none⟩ = false) :
    Calls Tryd.prog 35 #[.pointer (some ⟨b, 0, none⟩)] w fun e w' => e = .returned (.tuple #[]) ∧ w' = w.setCell ⟨b, 0, none⟩ (.pointer (some ⟨b, 0, none⟩)) := by
  obtain ⟨j, hj, hjs⟩ := Option.map_eq_some_iff.1 info44
  go_enter Tryd.func35, Tryd.ntmps35
  go_wp2
  rw [Lib.run_to_unsafe w ⟨b, 0, none⟩ Tryd.underlying42 Tryd.underlying64 hj (by rw [hjs]; decide) hsh (Nat.zero_lt_succ 1)]
  simp only [Result.andThen]
  rw [Oper.upon_value]
  go_wp2
  rw [run_callFunc_extern Tryd.func49 (by kernel_rfl) (by kernel_rfl) (by kernel_rfl) (e := Extern.AbiNoEscape.same) (by kernel_rfl)]
  rw [Lib.run_noEscape]
  simp only [Result.andThen]
  rw [Oper.upon_value]
  go_wp2
  rw [Lib.run_from_unsafe w ⟨b, 0, none⟩ Tryd.underlying64 Tryd.underlying42 hj hsh lies44]
  simp only [Result.andThen]
  rw [Oper.upon_value]
  go_wp2
  go_end0
  exact ⟨rfl, rfl⟩

/-- Rows of tokens stand. -/
def Keep33 (w w' : World) : Prop := ∀ (k : Nat) (cs : Array Value) (fr : Nat × Nat), w.heap[k]? = some (Obj.cells cs 33 fr) → w'.heap[k]? = some (Obj.cells cs 33 fr)
theorem Keep33.refl (w : World) : Keep33 w w := fun _ _ _ h => h
theorem Keep33.trans {a b c : World} (h : Keep33 a b) (k : Keep33 b c) : Keep33 a c := fun i cs fr hi => k i cs fr (h i cs fr hi)
theorem Keep33.set_ {w : World} {b : Nat} {c : Array Value} {fr : Nat × Nat} (hb : w.heap[b]? = some (.cells c 44 fr)) (i : Nat) (u : Value) : Keep33 w (w.setCell ⟨b, i, none⟩ u) := fun k cs fr' hk => by
  have hne : k ≠ b := by
    rintro rfl
    rw [hb] at hk
    injection hk with hk
    injection hk with _ h2
    cases h2
  rw [Below.heap_setCell w ⟨b, i, none⟩ u k hne]; exact hk
theorem Keep33.alloc (w : World) (o : Obj) : Keep33 w (w.alloc o) := fun k _ _ hk => (Below.heap_alloc w o k (Array.getElem?_eq_some_iff.1 hk).1).trans hk
theorem Keep33.grown {w w' : World} {B n : Nat} {v : Value} {xs : List Value} (hown : w.ownsRow B 5 1 v n xs) (hg : w.grownBy w' v.ownBlock) : Keep33 w w' := fun k cs fr hk => by
  refine (hg.block k (Array.getElem?_eq_some_iff.1 hk).1 (fun e => ?_)).trans hk
  rcases hown.2 with ⟨rfl, _⟩ | ⟨g, c, cur, rfl, _, hgg, _⟩
  · cases e
  · injection e with e
    have e2 : k = g := e
    subst e2
    rw [hgg] at hk
    injection hk with hk
    injection hk with _ h2
    cases h2

/-- copyCheck: behind it the builder is in use. -/
theorem check_any (B b : Nat) (bs : List Value) (w : World) (h : Lib.IsBuilder 44 5 B b bs w) :
    Calls Tryd.prog 35 #[.pointer (some ⟨b, 0, none⟩)] w fun e w' => e = .returned (.tuple #[]) ∧ Lib.BuilderAt 44 5 B b (.pointer (some ⟨b, 0, none⟩)) bs w' ∧ Below B w w' ∧ Keep33 w w' := by
  rcases h with h | h
  · refine (check_fresh b w h.cell0 h.shape h.frozen0).mono ?_
    rintro e w' ⟨rfl, rfl⟩
    exact ⟨rfl, h.used _, (Below.refl B w).setCell (p := ⟨b, 0, none⟩) h.1 _, by obtain ⟨_, _, hbk, _⟩ := h; exact Keep33.set_ hbk 0 _⟩
  · refine (check_used b w h.cell0).mono ?_
    rintro e w' ⟨rfl, rfl⟩
    exact ⟨rfl, h, Below.refl B _, Keep33.refl _⟩

theorem at_facts {B b : Nat} {bs : List Value} {w : World} (h : Lib.BuilderAt 44 5 B b (.pointer (some ⟨b, 0, none⟩)) bs w) :
    ∃ A cap, w.heap[b]? = some (.cells #[.pointer (some ⟨b, 0, none⟩), .slice A bs.length cap] 44 (0, 0)) ∧ w.ownsRow B 5 1 (.slice A bs.length cap) bs.length bs ∧ (Value.slice A bs.length cap).ownBlock ≠ some b ∧ B ≤ b ∧
      w.cell? ⟨b, 0, none⟩ = some (.pointer (some ⟨b, 0, none⟩)) ∧ w.cell? ⟨b, 1, none⟩ = some (.slice A bs.length cap) ∧ b < w.heap.size := by
  obtain ⟨hB, v, hbk, hown, hne⟩ := h
  obtain ⟨A, cap, rfl⟩ : ∃ A cap, v = .slice A bs.length cap := by
    rcases hown.2 with ⟨hv, h0⟩ | ⟨g, c, cur, hv, _⟩
    · exact ⟨none, 0, by rw [hv, h0]⟩
    · exact ⟨_, _, hv⟩
  exact ⟨A, cap, hbk, hown, hne, hB, by simp [World.cell?, hbk], by simp [World.cell?, hbk], (Array.getElem?_eq_some_iff.1 hbk).1⟩

/-- Behind the append: the buffer is put back. -/
theorem put_back {b : Nat} {bs : List Value} {w1 w2 : World} {A : Option Addr} {cap : Nat} (hbk : w1.heap[b]? = some (.cells #[.pointer (some ⟨b, 0, none⟩), .slice A bs.length cap] 44 (0, 0)))
    (hne : (Value.slice A bs.length cap).ownBlock ≠ some b) (hgr : w1.grownBy w2 (Value.slice A bs.length cap).ownBlock) :
    w2.heap[b]? = some (.cells #[.pointer (some ⟨b, 0, none⟩), .slice A bs.length cap] 44 (0, 0)) ∧ w2.cell? ⟨b, 0, none⟩ = some (.pointer (some ⟨b, 0, none⟩)) ∧ w2.cell? ⟨b, 1, none⟩ = some (.slice A bs.length cap) ∧ w2.frozen? ⟨b, 1, none⟩ = false := by
  have h2 : w2.heap[b]? = _ := (hgr.block b (Array.getElem?_eq_some_iff.1 hbk).1 (fun e => hne e.symm)).trans hbk
  exact ⟨h2, by simp [World.cell?, h2], by simp [World.cell?, h2], by simp [World.frozen?, h2]⟩

theorem slice_form {w : World} {base e size n : Nat} {v : Value} {xs : List Value} (h : w.ownsRow base e size v n xs) : ∃ A n' cap, v = .slice A n' cap := by
  rcases h.2 with ⟨hv, _⟩ | ⟨g, c, cur, hv, _⟩
  · exact ⟨_, _, _, hv⟩
  · exact ⟨_, _, _, hv⟩

set_option maxRecDepth 100000 in
set_option maxHeartbeats 1000000 in
theorem writeByte_any (B b : Nat) (bs : List Value) (c : Int) (w : World) (h : Lib.IsBuilder 44 5 B b bs w) (hlen : bs.length + 1 ≤ 140737488355328) (hBw : B ≤ w.heap.size) :
    Calls Tryd.prog 27 #[.pointer (some ⟨b, 0, none⟩), .int .u8 c] w fun e w' => e = .returned .nilIface ∧ Lib.BuilderAt 44 5 B b (.pointer (some ⟨b, 0, none⟩)) (bs ++ [.int .u8 c]) w' ∧ Below B w w' ∧ Keep33 w w' := by
  obtain ⟨i0, hi, hz0, hz1, hz2⟩ := info_parts infoByte
  have H := Lib.hid h
  clear h
  go_enter Tryd.func27, Tryd.ntmps27
  go_wp2_with fail
  refine (check_any B b bs _ H.out).mono ?_
  rintro e w1 ⟨rfl, h1, hb1, hk33⟩
  have HK33 := Lib.hid hk33
  clear hk33
  obtain ⟨A, cap, hbk, hown, hne, hB, c0, c1, hlt⟩ := at_facts h1
  have HK := Lib.hid hbk
  have HO := Lib.hid hown
  have HN := Lib.hid hne
  have HB1 := Lib.hid hb1
  clear hbk hown hne hb1 h1
  have hsz := HB1.out.size
  go_wp2_with (at_builtin; refine wpList_append_lies _ rfl _ _ _ rfl B 5 i0 _ 1 1 Tryd.underlying31 hi hz0 hz1 hz2 rfl (by omega) (.slice A bs.length cap) bs.length bs rfl (HO.out.alloc _) ⟨w1.heap.size, 0, none⟩ 1 1 [.int .u8 c] rfl rfl (World.news_of_block (cs := #[.int .u8 c]) (t := 5) (fr := (0, 0)) (heap_alloc_new w1 _)) (by simp [Value.oneCell']) (by omega) (by unfold maxLen; omega) (by omega) (by simp; omega) (w1.heap.size + 1) (by simp) ?_; intro g1 cap1 w4 hown1 hgrow1 hat1 hlt1; obtain ⟨k0, k1, k2, k3⟩ := put_back ((Below.heap_alloc _ _ _ hlt).trans HK.out) HN.out hgrow1; have R0 := Lib.hid k0; have R1 := Lib.hid hown1; have R2 := Lib.hid hgrow1; clear k0 hown1 hgrow1 hat1)
  go_ret
  refine ⟨rfl, Lib.BuilderAt.put (T := 44) (e := 5) hB R0.out (bs' := bs ++ [.int .u8 c]) (by simpa using R1.out) (by decide), ?_, HK33.out.trans ((Keep33.alloc _ _).trans ((Keep33.grown (HO.out.alloc _) R2.out).trans (Keep33.set_ R0.out 1 _)))⟩
  exact ((HB1.out.alloc (by omega) _).grown R2.out (by simp; omega) (fun k hk => (HO.out.lt k hk).1)).setCell (p := ⟨b, 1, none⟩) hB _

set_option maxRecDepth 100000 in
set_option maxHeartbeats 1000000 in
theorem writeString_any (B b : Nat) (bs : List Value) (s : ByteArray) (w : World) (h : Lib.IsBuilder 44 5 B b bs w) (hlen : bs.length + s.size ≤ 140737488355328) (hBw : B ≤ w.heap.size) :
    Calls Tryd.prog 28 #[.pointer (some ⟨b, 0, none⟩), .string s] w fun e w' => e = .returned (.tuple #[.int .i64 s.size, .nilIface]) ∧ Lib.BuilderAt 44 5 B b (.pointer (some ⟨b, 0, none⟩)) (bs ++ Lib.strCells s) w' ∧ Below B w w' ∧ Keep33 w w' := by
  obtain ⟨i0, hi, hz0, hz1, hz2⟩ := info_parts infoByte
  have H := Lib.hid h
  clear h
  go_enter Tryd.func28, Tryd.ntmps28
  go_wp2_with fail
  refine (check_any B b bs _ H.out).mono ?_
  rintro e w1 ⟨rfl, h1, hb1, hk33⟩
  have HK33 := Lib.hid hk33
  clear hk33
  obtain ⟨A, cap, hbk, hown, hne, hB, c0, c1, hlt⟩ := at_facts h1
  have HK := Lib.hid hbk
  have HO := Lib.hid hown
  have HN := Lib.hid hne
  have HB1 := Lib.hid hb1
  clear hbk hown hne hb1 h1
  have hsz := HB1.out.size
  go_wp2_with (at_builtin; refine Lib.wpList_append_own_string _ rfl _ _ 31 9 rfl B 5 i0 Tryd.underlying31 Tryd.underlying9 hi hz0 hz1 hz2 _ _ _ rfl HO.out s rfl (by unfold maxLen; omega) (by omega) (by omega) ?_; intro v' w2 hown' hgrow _; obtain ⟨A2, n2, cap2, rfl⟩ := slice_form hown'; obtain ⟨k0, k1, k2, k3⟩ := put_back HK.out HN.out hgrow; have R0 := Lib.hid k0; have R1 := Lib.hid hown'; have R2 := Lib.hid hgrow; clear k0 hown' hgrow)
  go_ret2
  refine ⟨rfl, Lib.BuilderAt.put (T := 44) (e := 5) hB R0.out (bs' := bs ++ Lib.strCells s) (by simpa [Lib.strCells_length] using R1.out) (by decide), ?_, HK33.out.trans ((Keep33.grown HO.out R2.out).trans (Keep33.set_ R0.out 1 _))⟩
  exact (HB1.out.grown R2.out (by omega) (fun k hk => (HO.out.lt k hk).1)).setCell (p := ⟨b, 1, none⟩) hB _
end Go.Proofs.YtaalgkcbknlccaaDoor
