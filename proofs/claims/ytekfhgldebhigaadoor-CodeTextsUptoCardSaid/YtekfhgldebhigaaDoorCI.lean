/-
  The walk of the program's hasNames.
-/
import Derived.Test.YtekfhgldebhigaaDoorCH
set_option linter.all false
namespace Go.Proofs.YtekfhgldebhigaaDoor
open Go.RowKit C
set_option maxRecDepth 100000 in
set_option maxHeartbeats 4000000 in
theorem hasNames_any (p : Pg) (A B D : Option Addr) (ca cb cd : Nat) (w : World) (hp : PgAt w p A B D ca cb cd) (hf64 : p.funcs.length ≤ 64) (hg64 : p.globals.length ≤ 64) :
    Calls Tryd.prog 29 #[pv p A B D ca cb cd] w fun e w' => e = .returned (.bool (namesP p)) ∧ Below w.heap.size w w' := by
  have HP := Lib.hid hp
  have HKF : Hid (∀ x ∈ p.funcs.map (·.name), x.size ≤ maxLen) := Lib.hid (by
    intro x hx
    obtain ⟨gl, hg, rfl⟩ := List.mem_map.1 hx
    exact hp.fs.all (P := fun gl : Fc => gl.name.size ≤ maxLen) (fun x g o h => h.s0) gl hg)
  have HKG : Hid (∀ x ∈ p.globals.map (·.name), x.size ≤ maxLen) := Lib.hid (by
    intro x hx
    obtain ⟨gl, hg, rfl⟩ := List.mem_map.1 hx
    exact hp.gs.all (P := fun gl : Gl => gl.name.size ≤ maxLen) (fun x g o h => h.s0) gl hg)
  obtain ⟨i0, hi, hz0, hz1, hz2⟩ := info_parts infoS
  clear hp
  go_enter Tryd.func29, Tryd.ntmps29
  go_wp2
  go_loopw [3, 12] (fun v i wr => ∃ k : Nat, k ≤ p.funcs.length ∧ i = .int .i64 k ∧ Hid (wr.ownsRow (w.heap.size + 1) 9 1 v k (((p.funcs.take k).map (·.name)).map Value.string)) ∧ Hid (Below (w.heap.size + 1) (w.alloc (.cells #[.slice A p.funcs.length ca, .slice B p.globals.length cb, .slice D p.layouts.length cd, .int .i64 p.main] 26)) wr)) (fun _ i _ => p.funcs.length - (intOf i).toNat)
  case atStart => exact ⟨0, Nat.zero_le _, rfl, Lib.hid (World.ownsRow_nil _ _ _ _), Lib.hid (Below.refl _ _)⟩
  case round =>
    obtain ⟨k, hk, rfl, ho, HB⟩ := hrel
    obtain ⟨y00, y01, y02, y03, yb⟩ := B1.of HB.out
    have HYB := Lib.hid yb
    have m0 : w.heap.size < wr.heap.size := by have := World.block_lt_of_cell? wr _ y00; simpa using this
    clear yb
    by_cases hlt : k < p.funcs.length
    · obtain ⟨g, o, rfl, hh⟩ := HP.out.fs.at (by omega)
      have hx := (hh k hlt).below HYB.out
      obtain ⟨x, hxe⟩ : ∃ x, p.funcs[k] = x := ⟨_, rfl⟩
      rw [hxe] at hx
      have q0 := hx.c0
      have q1 := hx.c1
      have q2 := hx.c2
      obtain ⟨RA, rcap, q3, _, _, _⟩ := hx.row
      have HX := Lib.hid hxe
      clear hx hxe hh
      go_wp2_with (at_builtin; refine wpList_append_lies _ rfl _ _ _ rfl (w.heap.size + 1) 9 i0 _ 1 16 Tryd.underlying74 hi hz0 hz1 hz2 rfl (by omega) u3 k _ rfl ((ho.out.alloc _).alloc _) ⟨wr.heap.size + 1, 0, none⟩ 1 1 [.string x.name] rfl rfl (World.news_of_block (cs := #[.string x.name]) (t := 9) (fr := (0, 0)) (heap_alloc2_new wr _ _)) (by simp [Value.oneCell']) (by omega) (by unfold maxLen; omega) (by omega) (by simp; omega) (wr.heap.size + 2) (by simp) ?_; intro g1 cap1 w4 hown1 hgrow1 hat1 hlt1)
      have HT : Hid (w4.ownsRow (w.heap.size + 1) 9 1 (.slice (some ⟨g1, 0, none⟩) (k + 1) cap1) (k + 1) (((p.funcs.take (k + 1)).map (·.name)).map Value.string)) := Lib.hid (by
        rw [List.take_succ_eq_append_getElem hlt, HX.out, List.map_append, List.map_append]; exact hown1)
      have HB4 := Lib.hid (((HB.out.alloc m0 _).alloc (by simp; omega) _).grown hgrow1 (by simp; omega) (fun j hj => (ho.out.lt j hj).1))
      clear hown1 hgrow1 hat1
      go_wp2
      go_roundw
      case rel => exact ⟨k + 1, by omega, by go_num, HT, HB4⟩
      case measure => simp [intOf]; omega
    · obtain rfl : k = p.funcs.length := by omega
      obtain ⟨l, hl⟩ : ∃ l, p.funcs.map (·.name) = l := ⟨_, rfl⟩
      have hll : p.funcs.length = l.length := by rw [← hl]; simp
      have ho' := ho.out
      rw [List.take_length, hl, hll] at ho'
      have hkk := HKF.out
      rw [hl] at hkk
      obtain ⟨AK, cK, rfl, hcK, hrK⟩ := own_strs ho' hkk
      have HRK := Lib.hid hrK
      have HLL := Lib.hid hl
      have hl64 : l.length ≤ 64 := by omega
      have HB1 := Lib.hid (B1.of HB.out)
      clear ho' hkk hrK hl ho hll y00 y01 y02 y03
      obtain ⟨W2, hW2⟩ : ∃ W2, wr = W2 := ⟨_, rfl⟩
      subst hW2
      rename World => W2
      obtain ⟨y00, y01, y02, y03, yb⟩ := HB1.out
      clear yb
      go_wp2
      clear y00 y01 y02 y03
      go_loopw [4, 25] (fun v i wr => ∃ k : Nat, k ≤ p.globals.length ∧ i = .int .i64 k ∧ Hid (wr.ownsRow W2.heap.size 9 1 v k (((p.globals.take k).map (·.name)).map Value.string)) ∧ Hid (Below W2.heap.size W2 wr)) (fun _ i _ => p.globals.length - (intOf i).toNat)
      case atStart => exact ⟨0, Nat.zero_le _, rfl, Lib.hid (World.ownsRow_nil _ _ _ _), Lib.hid (Below.refl _ _)⟩
      case round =>
        obtain ⟨k, hk, rfl, ho, hb2⟩ := hrel
        obtain ⟨y00, y01, y02, y03, yb⟩ := HB1.out.keep hb2.out
        have HYB2 := Lib.hid yb
        have m1 : w.heap.size < wr.heap.size := by have := World.block_lt_of_cell? wr _ y00; simpa using this
        have m2 : W2.heap.size ≤ wr.heap.size := hb2.out.size
        clear yb
        by_cases hlt : k < p.globals.length
        · obtain ⟨g, o, rfl, hh⟩ := HP.out.gs.at (by omega)
          have hx := (hh k hlt).below HYB2.out
          obtain ⟨x, hxe⟩ : ∃ x, p.globals[k] = x := ⟨_, rfl⟩
          rw [hxe] at hx
          have q0 := hx.c0
          have q1 := hx.c1
          have HX := Lib.hid hxe
          clear hx hxe hh
          go_wp2_with (at_builtin; refine wpList_append_lies _ rfl _ _ _ rfl (W2.heap.size) 9 i0 _ 1 16 Tryd.underlying74 hi hz0 hz1 hz2 rfl (by omega) u4 k _ rfl ((ho.out.alloc _).alloc _) ⟨wr.heap.size + 1, 0, none⟩ 1 1 [.string x.name] rfl rfl (World.news_of_block (cs := #[.string x.name]) (t := 9) (fr := (0, 0)) (heap_alloc2_new wr _ _)) (by simp [Value.oneCell']) (by omega) (by unfold maxLen; omega) (by omega) (by simp; omega) (wr.heap.size + 2) (by simp) ?_; intro g1 cap1 w4 hown1 hgrow1 hat1 hlt1)
          have HT : Hid (w4.ownsRow W2.heap.size 9 1 (.slice (some ⟨g1, 0, none⟩) (k + 1) cap1) (k + 1) (((p.globals.take (k + 1)).map (·.name)).map Value.string)) := Lib.hid (by
            rw [List.take_succ_eq_append_getElem hlt, HX.out, List.map_append, List.map_append]; exact hown1)
          have HB4 := Lib.hid (((hb2.out.alloc m2 _).alloc (by simp; omega) _).grown hgrow1 (by simp; omega) (fun j hj => (ho.out.lt j hj).1))
          clear hown1 hgrow1 hat1
          go_wp2
          go_roundw
          case rel => exact ⟨k + 1, by omega, by go_num, HT, HB4⟩
          case measure => simp [intOf]; omega
        · obtain rfl : k = p.globals.length := by omega
          obtain ⟨l2, hl2⟩ : ∃ l2, p.globals.map (·.name) = l2 := ⟨_, rfl⟩
          have hll2 : p.globals.length = l2.length := by rw [← hl2]; simp
          have ho' := ho.out
          rw [List.take_length, hl2, hll2] at ho'
          have hkk := HKG.out
          rw [hl2] at hkk
          obtain ⟨AG, cG, rfl, hcG, hrG⟩ := own_strs ho' hkk
          have HA1 : Hid (∀ V, Hid (Below wr.heap.size wr V) → Calls Tryd.prog 54 #[.slice AK l.length cK] V fun e w' => e = .returned (.bool (namesOk l)) ∧ Below V.heap.size V w') := Lib.hid fun V hV => areNames_any AK l cK V hl64 (HRK.out.imp fun x g o h => (h.below hb2.out).below hV.out)
          have HA2 : Hid (∀ V, Hid (Below wr.heap.size wr V) → Calls Tryd.prog 54 #[.slice AG l2.length cG] V fun e w' => e = .returned (.bool (namesOk l2)) ∧ Below V.heap.size V w') := Lib.hid fun V hV => areNames_any AG l2 cG V (by omega) (hrG.imp fun x g o h => h.below hV.out)
          have HF : Hid (namesP p = (namesOk l && namesOk l2)) := Lib.hid (by unfold namesP; rw [HLL.out, hl2])
          clear ho' hkk hrG hl2 ho hll2 y00 y01 y02 y03
          by_cases hn1 : namesOk l = true
          · simp only [hn1] at HA1
            have HF2 : Hid (namesP p = namesOk l2) := Lib.hid (by rw [HF.out, hn1, Bool.true_and])
            clear hn1
            go_wp2_with fail
            refine (HA1.out _ (Lib.hid (Below.refl _ _))).mono ?_
            rintro e w3 ⟨rfl, hw3⟩
            go_wp2_with fail
            refine (HA2.out _ (Lib.hid hw3)).mono ?_
            rintro e w4 ⟨rfl, hw4⟩
            go_wp2
            go_ret
            exact ⟨retb HF2.out.symm, HYB2.out.trans ((hw3.trans (hw4.mono hw3.size)).mono HYB2.out.size)⟩
          · have hn2 : namesOk l = false := by simpa using hn1
            simp only [hn2] at HA1
            have HF2 : Hid (namesP p = false) := Lib.hid (by rw [HF.out, hn2, Bool.false_and])
            clear hn1 hn2
            go_wp2_with fail
            refine (HA1.out _ (Lib.hid (Below.refl _ _))).mono ?_
            rintro e w3 ⟨rfl, hw3⟩
            go_wp2
            go_ret
            exact ⟨retb HF2.out.symm, HYB2.out.trans (hw3.mono HYB2.out.size)⟩
end Go.Proofs.YtekfhgldebhigaaDoor
