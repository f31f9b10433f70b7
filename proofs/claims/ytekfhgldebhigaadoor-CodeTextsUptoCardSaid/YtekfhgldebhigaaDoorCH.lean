/-
  The walks of the program's hasKinds, hasNames.
-/
import Derived.Test.YtekfhgldebhigaaDoorCG
import Derived.Deep.AppendLies
import Derived.OwnWalk
set_option linter.all false
namespace Go.Proofs.YtekfhgldebhigaaDoor
open Go.RowKit C
theorem infoI : (Tryd.prog.info? 3).map (fun i => (i.zero, i.size, i.bytes)) = some (some (.int .i64 0), 1, 8) := by kernel_rfl
theorem infoS : (Tryd.prog.info? 9).map (fun i => (i.zero, i.size, i.bytes)) = some (some (.string ⟨#[]⟩), 1, 16) := by kernel_rfl
/-- A row of the call's own, read. -/
theorem own_ints {w : World} {base : Nat} {v : Value} {l : List Int} (h : w.ownsRow base 3 1 v l.length (l.map (Value.int .i64))) (hi : ∀ x ∈ l, i64 x) :
    ∃ A c, v = .slice A l.length c ∧ l.length ≤ c ∧ Row 1 (IntAt w) A l ∧ ∀ a, A = some a → base ≤ a.block ∧ a.block < w.heap.size := by
  rcases Nat.eq_zero_or_pos l.length with h0 | h0
  · obtain rfl := List.length_eq_zero_iff.1 h0
    rcases h.2 with ⟨rfl, _⟩ | ⟨g, cap, cur, rfl, hb, hg, _⟩
    · exact ⟨none, 0, rfl, Nat.le_refl _, .inl rfl, fun a e => by cases e⟩
    · exact ⟨some ⟨g, 0, none⟩, cap, rfl, Nat.zero_le _, .inl rfl, fun a e => by cases e; exact ⟨hb, (Array.getElem?_eq_some_iff.1 hg).1⟩⟩
  · obtain ⟨g, cap, rfl, hb, hlt⟩ := h.form h0
    have hc : l.length ≤ cap := by
      rcases h.2 with ⟨e, _⟩ | ⟨g', cap', cur, e, _, _, hnc, _⟩
      · simp at e
      · simp only [Value.slice.injEq] at e; omega
    refine ⟨some ⟨g, 0, none⟩, cap, rfl, hc, .inr ⟨g, 0, rfl, fun i hi' => ⟨hlt, ?_, hi _ (List.getElem_mem hi')⟩⟩, fun a e => by cases e; exact ⟨hb, hlt⟩⟩
    have := h.cellAt i (by omega)
    rw [Nat.zero_add, Nat.mul_one, this]; simp [hi']
theorem own_strs {w : World} {base : Nat} {v : Value} {l : List ByteArray} (h : w.ownsRow base 9 1 v l.length (l.map Value.string)) (hi : ∀ x ∈ l, x.size ≤ maxLen) :
    ∃ A c, v = .slice A l.length c ∧ l.length ≤ c ∧ Row 1 (StrAt w) A l := by
  rcases Nat.eq_zero_or_pos l.length with h0 | h0
  · obtain rfl := List.length_eq_zero_iff.1 h0
    rcases h.2 with ⟨rfl, _⟩ | ⟨g, cap, cur, rfl, hb, hg, _⟩
    · exact ⟨none, 0, rfl, Nat.le_refl _, .inl rfl⟩
    · exact ⟨some ⟨g, 0, none⟩, cap, rfl, Nat.zero_le _, .inl rfl⟩
  · obtain ⟨g, cap, rfl, hb, hlt⟩ := h.form h0
    have hc : l.length ≤ cap := by
      rcases h.2 with ⟨e, _⟩ | ⟨g', cap', cur, e, _, _, hnc, _⟩
      · simp at e
      · simp only [Value.slice.injEq] at e; omega
    refine ⟨some ⟨g, 0, none⟩, cap, rfl, hc, .inr ⟨g, 0, rfl, fun i hi' => ⟨hlt, ?_, hi _ (List.getElem_mem hi')⟩⟩⟩
    have := h.cellAt i (by omega)
    rw [Nat.zero_add, Nat.mul_one, this]; simp [hi']
theorem Row.all {α : Type} {k : Nat} {R : α → Nat → Nat → Prop} {A : Option Addr} {l : List α} (h : Row k R A l) {P : α → Prop} (H : ∀ x g o, R x g o → P x) : ∀ x ∈ l, P x := by
  intro x hx
  obtain ⟨i, hi, rfl⟩ := List.mem_iff_getElem.1 hx
  obtain ⟨g, o, _, hh⟩ := h.at (by omega)
  exact H _ _ _ (hh i hi)
theorem B1.of {p : Pg} {A B D : Option Addr} {ca cb cd : Nat} {w W : World} (h : Below (w.heap.size + 1) (w.alloc (.cells #[.slice A p.funcs.length ca, .slice B p.globals.length cb, .slice D p.layouts.length cd, .int .i64 p.main] 26)) W) : B1 p A B D ca cb cd w W := (B1.new p A B D ca cb cd w).keep (by simpa using h)

set_option maxRecDepth 100000 in
set_option maxHeartbeats 4000000 in
theorem hasKinds_any (p : Pg) (A B D : Option Addr) (ca cb cd : Nat) (w : World) (hp : PgAt w p A B D ca cb cd) (hg64 : p.globals.length ≤ 64) :
    Calls Tryd.prog 30 #[pv p A B D ca cb cd] w fun e w' => e = .returned (.bool (kindsP p)) ∧ Below w.heap.size w w' := by
  have HP := Lib.hid hp
  have ml := hp.kd.2
  unfold maxLen at ml
  have hkk : ∀ x ∈ p.globals.map (·.kind), i64 x := by
    intro x hx
    obtain ⟨gl, hg, rfl⟩ := List.mem_map.1 hx
    exact hp.gs.all (P := fun gl : Gl => i64 gl.kind) (fun x g o h => h.b1) gl hg
  have HKK := Lib.hid hkk
  have HN := Lib.hid (B1.new p A B D ca cb cd w)
  obtain ⟨i0, hi, hz0, hz1, hz2⟩ := info_parts infoI
  clear hp hkk
  go_enter Tryd.func30, Tryd.ntmps30
  go_wp2
  go_loopw [3, 11] (fun v i wr => ∃ k : Nat, k ≤ p.globals.length ∧ i = .int .i64 k ∧ Hid (wr.ownsRow (w.heap.size + 1) 3 1 v k (((p.globals.take k).map (·.kind)).map (Value.int .i64))) ∧ Hid (Below (w.heap.size + 1) (w.alloc (.cells #[.slice A p.funcs.length ca, .slice B p.globals.length cb, .slice D p.layouts.length cd, .int .i64 p.main] 26)) wr)) (fun _ i _ => p.globals.length - (intOf i).toNat)
  case atStart => exact ⟨0, Nat.zero_le _, rfl, Lib.hid (World.ownsRow_nil _ _ _ _), Lib.hid (Below.refl _ _)⟩
  case round =>
    obtain ⟨k, hk, rfl, ho, HB⟩ := hrel
    obtain ⟨y00, y01, y02, y03, yb⟩ := B1.of HB.out
    have HYB := Lib.hid yb
    have m0 : w.heap.size < wr.heap.size := by have := World.block_lt_of_cell? wr _ y00; simpa using this
    clear yb
    by_cases hlt : k < p.globals.length
    · obtain ⟨g, o, rfl, hh⟩ := HP.out.gs.at (by omega)
      have hx := (hh k hlt).below HYB.out
      obtain ⟨x, hxe⟩ : ∃ x, p.globals[k] = x := ⟨_, rfl⟩
      rw [hxe] at hx
      have q0 := hx.c0
      have q1 := hx.c1
      have HX := Lib.hid hxe
      clear hx hxe hh
      go_wp2_with (at_builtin; refine wpList_append_lies _ rfl _ _ _ rfl (w.heap.size + 1) 3 i0 _ 1 8 Tryd.underlying39 hi hz0 hz1 hz2 rfl (by omega) u3 k _ rfl ((ho.out.alloc _).alloc _) ⟨wr.heap.size + 1, 0, none⟩ 1 1 [.int .i64 x.kind] rfl rfl (World.news_of_block (cs := #[.int .i64 x.kind]) (t := 3) (fr := (0, 0)) (heap_alloc2_new wr _ _)) (by simp [Value.oneCell']) (by omega) (by unfold maxLen; omega) (by omega) (by simp; omega) (wr.heap.size + 2) (by simp) ?_; intro g1 cap1 w4 hown1 hgrow1 hat1 hlt1)
      have HT : Hid (w4.ownsRow (w.heap.size + 1) 3 1 (.slice (some ⟨g1, 0, none⟩) (k + 1) cap1) (k + 1) (((p.globals.take (k + 1)).map (·.kind)).map (Value.int .i64))) := Lib.hid (by
        rw [List.take_succ_eq_append_getElem hlt, HX.out, List.map_append, List.map_append]; exact hown1)
      have HB4 := Lib.hid (((HB.out.alloc m0 _).alloc (by simp; omega) _).grown hgrow1 (by simp; omega) (fun j hj => (ho.out.lt j hj).1))
      clear hown1 hgrow1 hat1
      go_wp2
      go_roundw
      case rel => exact ⟨k + 1, by omega, by go_num, HT, HB4⟩
      case measure => simp [intOf]; omega
    · obtain rfl : k = p.globals.length := by omega
      obtain ⟨l, hl⟩ : ∃ l, p.globals.map (·.kind) = l := ⟨_, rfl⟩
      have hll : p.globals.length = l.length := by rw [← hl]; simp
      have ho' := ho.out
      rw [List.take_length, hl, hll] at ho'
      have hkk := HKK.out
      rw [hl] at hkk
      obtain ⟨AK, cK, rfl, hcK, hrK, _⟩ := own_ints ho' hkk
      have HRK := Lib.hid hrK
      have HLL := Lib.hid hl
      have hl64 : l.length ≤ 64 := by omega
      have hw2 := HB
      clear ho' hkk hrK hl ho hll
      go_wp2
      go_loop [24] (fun i => ∃ k : Nat, k ≤ p.layouts.length ∧ i = .int .i64 k ∧ Hid ((p.layouts.take k).all (fun l => decide (l.length ≤ 64) && kindsOk l) = true)) (fun i => p.layouts.length - (intOf i).toNat)
      case atStart => exact ⟨0, Nat.zero_le _, rfl, Lib.hid rfl⟩
      case round =>
        obtain ⟨k, hk, rfl, hok⟩ := hrel
        by_cases hlt : k < p.layouts.length
        · obtain ⟨g, o, rfl, hh⟩ := HP.out.ls.at (by omega)
          have hx := (hh k hlt).below HYB.out
          obtain ⟨x, hxe⟩ : ∃ x, p.layouts[k] = x := ⟨_, rfl⟩
          rw [hxe, Nat.mul_one] at hx
          obtain ⟨RA, rcap, q0, hrc, hrm, hrr⟩ := hx.row
          have HX := Lib.hid hxe
          have HAK : Hid (Calls Tryd.prog 55 #[.slice RA x.length rcap] wr fun e w' => e = .returned (.bool (kindsOk x)) ∧ wr = w') := Lib.hid (areKinds_any RA x rcap wr hrm hrr)
          have HS : Hid ((p.layouts.take (k + 1)).all (fun l => decide (l.length ≤ 64) && kindsOk l) = (decide (x.length ≤ 64) && kindsOk x)) := Lib.hid (by
            rw [List.take_succ_eq_append_getElem hlt, List.all_append, hok.out, hxe]; simp)
          have HBad : Hid ((decide (x.length ≤ 64) && kindsOk x) = false → kindsP p = false) := Lib.hid fun h => by
            rw [← Bool.not_eq_true]; unfold kindsP
            simp only [Bool.and_eq_true, List.all_eq_true]
            intro hall
            have := hall.1 x (hxe ▸ List.getElem_mem hlt)
            rw [Bool.and_eq_false_iff] at h
            rcases h with h | h
            · rw [this.1] at h; cases h
            · rw [this.2] at h; cases h
          clear hx hxe hh hrr
          unfold maxLen at hrm
          by_cases h64 : x.length ≤ 64
          · have d1 : decide ((64 : Int) < (x.length : Int)) = false := by simp; omega
            by_cases hko : kindsOk x = true
            · simp only [hko] at HAK
              have HT : Hid ((p.layouts.take (k + 1)).all (fun l => decide (l.length ≤ 64) && kindsOk l) = true) := Lib.hid (by rw [HS.out, hko]; simp [h64])
              clear h64 hko
              go_wp2_with (go_at_call 55; (with_reducible refine HAK.out.mono ?_); rintro e w3 ⟨rfl, rfl⟩)
              go_round
              case rel => exact ⟨k + 1, by omega, by go_num, HT⟩
              case measure => simp [intOf]; omega
            · have hko2 : kindsOk x = false := by simpa using hko
              simp only [hko2] at HAK
              have HF : Hid (kindsP p = false) := Lib.hid (HBad.out (by rw [hko2]; simp))
              clear h64 hko hko2
              go_wp2_with (go_at_call 55; (with_reducible refine HAK.out.mono ?_); rintro e w3 ⟨rfl, rfl⟩)
              go_ret
              exact ⟨retb HF.out.symm, HYB.out⟩
          · have d1 : decide ((64 : Int) < (x.length : Int)) = true := by simp; omega
            have HF : Hid (kindsP p = false) := Lib.hid (HBad.out (by simp [h64]))
            clear h64
            go_wp2
            go_ret
            exact ⟨retb HF.out.symm, HYB.out⟩
        · obtain rfl : k = p.layouts.length := by omega
          have HAK : Hid (Calls Tryd.prog 55 #[.slice AK l.length cK] wr fun e w' => e = .returned (.bool (kindsOk l)) ∧ wr = w') := Lib.hid (areKinds_any AK l cK wr (by unfold maxLen; omega) HRK.out)
          have HF : Hid (kindsP p = kindsOk l) := Lib.hid (by
            have := hok.out
            rw [List.take_length] at this
            unfold kindsP; rw [this, HLL.out, Bool.true_and])
          go_wp2_with (go_at_call 55; (with_reducible refine HAK.out.mono ?_); rintro e w3 ⟨rfl, rfl⟩)
          go_ret
          exact ⟨retb HF.out.symm, HYB.out⟩
end Go.Proofs.YtekfhgldebhigaaDoor
