/-
  The walk of the specification's Next.
-/
import Derived.Test.YtcjkhbggongcjaaRO
import Derived.Deep.RegionHeld3
set_option linter.all false
namespace Go.Proofs.Ytcjkhbggongcjaa
open Go.RowKit C
theorem tok_small {T : List Int} (h : ∀ n ∈ T, i64 n) (hl : T.length ≤ 300) : TOk T := ⟨hl, h⟩
theorem c3_keep {w V w' : World} {b : Nat} {v : Value} (h : V.cell? ⟨b, 3, none⟩ = some v ∧ Below w.heap.size w V) (hb : Below V.heap.size V w') : w'.cell? ⟨b, 3, none⟩ = some v ∧ Below w.heap.size w w' :=
  ⟨cell_bel h.1 hb, h.2.trans (hb.mono h.2.size)⟩
set_option maxRecDepth 100000 in
set_option maxHeartbeats 8000000 in
theorem rnext_any (f : Fc) (Af : Option Addr) (caf : Nat) (pc : Int) (w : World) (hf : FvOk w f Af caf) (h1000 : f.code.length ≤ 1000) (h50 : ∀ x ∈ f.code, x.op = 50 → 0 ≤ x.b ∧ x.b ≤ 8) (bp : i64 pc) :
    Calls Try.prog 26 #[fv f Af caf, .int .i64 pc] w (RetOwn (nextF f pc) w) := by
  have HV := Lib.hid hf
  clear hf
  by_cases c1 : pc < 0
  · have d1 : decide (pc < 0) = true := by simpa using c1
    have HR : Hid (nextF f pc = []) := Lib.hid (by unfold nextF; rw [if_neg (by omega)])
    go_enter Try.func26, Try.ntmps26
    go_wp2
    go_ret
    exact ⟨_, rfl, by rw [HR.out]; exact World.ownsRow_nil _ _ _ _, below1 _ _⟩
  · have d1 : decide (pc < 0) = false := by simpa using c1
    by_cases c2 : pc < (f.code.length : Int)
    · have d2 : decide ((f.code.length : Int) ≤ pc) = false := by simp; omega
      obtain ⟨gC, oC, rfl, hC⟩ := HV.out.row.at (by omega)
      have hx := (hC pc.toNat (by omega)).below (below1 w (.cells #[.string f.name, .int .i64 f.params, .int .i64 f.regs, .slice (some ⟨gC, oC, none⟩) f.code.length caf] 38))
      obtain ⟨x, hxe⟩ : ∃ x, f.code[pc.toNat]'(by omega) = x := ⟨_, rfl⟩
      rw [hxe] at hx
      have h50x := h50 x (hxe ▸ List.getElem_mem _)
      have q0 := hx.c0
      have q1 := hx.c1
      have q2 := hx.c2
      have q3 := hx.c3
      have q4 := hx.c4
      have HX := Lib.hid hx
      have k0 : 0 ≤ pc := by omega
      have HNX : Hid (nextF f pc = nextI pc.toNat x) := Lib.hid (by unfold nextF; rw [if_pos ⟨k0, c2⟩, getDI (by omega), hxe])
      have HPC : Hid (((pc.toNat : Nat) : Int) = pc) := Lib.hid (by omega)
      have HX1 := Lib.hid (BX1.new x (w.alloc (.cells #[.string f.name, .int .i64 f.params, .int .i64 f.regs, .slice (some ⟨gC, oC, none⟩) f.code.length caf] 38)))
      have HB2 := Lib.hid (below2 w (.cells #[.string f.name, .int .i64 f.params, .int .i64 f.regs, .slice (some ⟨gC, oC, none⟩) f.code.length caf] 38) (.cells #[.int .i64 x.op, .int .i64 x.a, .int .i64 x.b, .int .i64 x.c, .int .i64 x.at'] 44))
      have hpi : i64 (pc + 1) := by unfold i64; omega
      clear hx hxe hC h50
      by_cases h : x.op = 30
      · have e30 : ((x.op : Int) == 30) = true := by simp [h]
        have e51 : ((x.op : Int) == 51) = false := by simp [h]
        have e16 : ((x.op : Int) == 16) = false := by simp [h]
        have e17 : ((x.op : Int) == 17) = false := by simp [h]
        have e45 : ((x.op : Int) == 45) = false := by simp [h]
        have e50 : ((x.op : Int) == 50) = false := by simp [h]
        have HR : Hid (nextF f pc = []) := Lib.hid (by rw [HNX.out]; unfold nextI; rw [if_pos (by omega)])
        clear h h50x
        go_enter Try.func26, Try.ntmps26
        go_wp2
        go_ret
        exact ⟨_, rfl, by rw [HR.out]; exact World.ownsRow_nil _ _ _ _, HB2.out⟩
      by_cases h : x.op = 51
      · have e30 : ((x.op : Int) == 30) = false := by simp [h]
        have e51 : ((x.op : Int) == 51) = true := by simp [h]
        have e16 : ((x.op : Int) == 16) = false := by simp [h]
        have e17 : ((x.op : Int) == 17) = false := by simp [h]
        have e45 : ((x.op : Int) == 45) = false := by simp [h]
        have e50 : ((x.op : Int) == 50) = false := by simp [h]
        have HR : Hid (nextF f pc = []) := Lib.hid (by rw [HNX.out]; unfold nextI; rw [if_pos (by omega)])
        clear h h50x
        go_enter Try.func26, Try.ntmps26
        go_wp2
        go_ret
        exact ⟨_, rfl, by rw [HR.out]; exact World.ownsRow_nil _ _ _ _, HB2.out⟩
      by_cases h : x.op = 16
      · have e30 : ((x.op : Int) == 30) = false := by simp [h]
        have e51 : ((x.op : Int) == 51) = false := by simp [h]
        have e16 : ((x.op : Int) == 16) = true := by simp [h]
        have e17 : ((x.op : Int) == 17) = false := by simp [h]
        have e45 : ((x.op : Int) == 45) = false := by simp [h]
        have e50 : ((x.op : Int) == 50) = false := by simp [h]
        have HR : Hid (nextF f pc = insAll [] [x.c]) := Lib.hid (by rw [HNX.out]; unfold nextI; rw [if_neg (by omega), if_pos h]; rfl)
        have HW := Lib.hid (with_step (T := [x.c]) (d := []) (r := []) (n := x.c) rfl (by simp) (by intro y hy; simp at hy; subst hy; exact HX.out.b3) w.heap.size (.slice none 0 0) ((w.alloc (.cells #[.string f.name, .int .i64 f.params, .int .i64 f.regs, .slice (some ⟨gC, oC, none⟩) f.code.length caf] 38)).alloc (.cells #[.int .i64 x.op, .int .i64 x.a, .int .i64 x.b, .int .i64 x.c, .int .i64 x.at'] 44)) (by simp; omega) (World.ownsRow_nil _ _ _ _))
        clear h h50x
        go_enter Try.func26, Try.ntmps26
        go_wp2_with fail
        refine HW.out.mono ?_
        rintro e w5 ⟨v5, rfl, ho5, hw5⟩
        go_wp2
        go_ret
        exact ⟨_, rfl, by rw [HR.out]; exact ho5, HB2.out.trans (hw5.mono HB2.out.size)⟩
      by_cases h : x.op = 17
      · have e30 : ((x.op : Int) == 30) = false := by simp [h]
        have e51 : ((x.op : Int) == 51) = false := by simp [h]
        have e16 : ((x.op : Int) == 16) = false := by simp [h]
        have e17 : ((x.op : Int) == 17) = true := by simp [h]
        have e45 : ((x.op : Int) == 45) = false := by simp [h]
        have e50 : ((x.op : Int) == 50) = false := by simp [h]
        have HR : Hid (nextF f pc = insAll [] [pc + 1, x.c]) := Lib.hid (by rw [HNX.out]; unfold nextI; rw [if_neg (by omega), if_neg (by omega), if_pos (by omega), HPC.out]; rfl)
        have HW1 : Hid (∀ V, w.heap.size ≤ V.heap.size → Calls Try.prog 51 #[.slice none 0 0, .int .i64 (pc + 1)] V fun e w' => ∃ v', e = .returned v' ∧ Owns w.heap.size w' v' (insAll [] [pc + 1]) ∧ Below V.heap.size V w') := Lib.hid fun V hV =>
          with_step (T := [pc + 1, x.c]) (d := []) (r := [x.c]) (n := pc + 1) rfl (by simp) (by intro y hy; simp at hy; rcases hy with rfl | rfl; exact hpi; exact HX.out.b3) w.heap.size (.slice none 0 0) V hV (World.ownsRow_nil _ _ _ _)
        have HW2 : Hid (∀ V v, w.heap.size ≤ V.heap.size → Owns w.heap.size V v (insAll [] [pc + 1]) → Calls Try.prog 51 #[v, .int .i64 x.c] V fun e w' => ∃ v', e = .returned v' ∧ Owns w.heap.size w' v' (insAll [] [pc + 1, x.c]) ∧ Below V.heap.size V w') := Lib.hid fun V v hV hO =>
          with_step (T := [pc + 1, x.c]) (d := [pc + 1]) (r := []) (n := x.c) rfl (by simp) (by intro y hy; simp at hy; rcases hy with rfl | rfl; exact hpi; exact HX.out.b3) w.heap.size v V hV hO
        clear h h50x
        go_enter Try.func26, Try.ntmps26
        go_wp2_with fail
        have hwr : IntKind.i64.wrap (pc + 1) = pc + 1 := IntWalk.i64_in _ (by omega)
        have HC3 : Hid (((w.alloc (.cells #[.string f.name, .int .i64 f.params, .int .i64 f.regs, .slice (some ⟨gC, oC, none⟩) f.code.length caf] 38)).alloc (.cells #[.int .i64 x.op, .int .i64 x.a, .int .i64 x.b, .int .i64 x.c, .int .i64 x.at'] 44)).cell? ⟨w.heap.size + 1, 3, none⟩ = some (.int .i64 x.c)) := Lib.hid (by have := HX1.out.2.2.2.1; rwa [World.size_alloc] at this)
        go_region_held3 (fun w' => w'.cell? ⟨w.heap.size + 1, 3, none⟩ = some (.int .i64 x.c) ∧ Below w.heap.size w w')
          (first
            | exact ⟨HC3.out, Below.drew HB2.out⟩
            | assumption
            | (refine c3_keep (w := w) (b := w.heap.size + 1) (v := .int .i64 x.c) ?_ hbb; assumption))
          (first
            | (go_at_call 51; (with_reducible refine (HW1.out _ ?_).mono ?_); (go_split_ands; refine Below.size (B := w.heap.size) ?_; assumption); rintro e w' ⟨v1, rfl, ho1, hbb⟩)
            | (go_at_call 51; (with_reducible refine (HW2.out _ _ ?_ ?_).mono ?_); (go_split_ands; refine Below.size (B := w.heap.size) ?_; assumption); (exact ho1); rintro e w' ⟨v2, rfl, ho2, hbb⟩))
        all_goals
          have HZ : Hid (Below w.heap.size w w') := Lib.hid (by go_split_ands; assumption)
          go_wp2
          go_ret
          exact ⟨_, rfl, by rw [HR.out]; exact ho2, HZ.out⟩
      by_cases h : x.op = 45
      · have e30 : ((x.op : Int) == 30) = false := by simp [h]
        have e51 : ((x.op : Int) == 51) = false := by simp [h]
        have e16 : ((x.op : Int) == 16) = false := by simp [h]
        have e17 : ((x.op : Int) == 17) = false := by simp [h]
        have e45 : ((x.op : Int) == 45) = true := by simp [h]
        have e50 : ((x.op : Int) == 50) = false := by simp [h]
        have HR : Hid (nextF f pc = insAll [] [pc + 1, x.c]) := Lib.hid (by rw [HNX.out]; unfold nextI; rw [if_neg (by omega), if_neg (by omega), if_pos (by omega), HPC.out]; rfl)
        have HW1 : Hid (∀ V, w.heap.size ≤ V.heap.size → Calls Try.prog 51 #[.slice none 0 0, .int .i64 (pc + 1)] V fun e w' => ∃ v', e = .returned v' ∧ Owns w.heap.size w' v' (insAll [] [pc + 1]) ∧ Below V.heap.size V w') := Lib.hid fun V hV =>
          with_step (T := [pc + 1, x.c]) (d := []) (r := [x.c]) (n := pc + 1) rfl (by simp) (by intro y hy; simp at hy; rcases hy with rfl | rfl; exact hpi; exact HX.out.b3) w.heap.size (.slice none 0 0) V hV (World.ownsRow_nil _ _ _ _)
        have HW2 : Hid (∀ V v, w.heap.size ≤ V.heap.size → Owns w.heap.size V v (insAll [] [pc + 1]) → Calls Try.prog 51 #[v, .int .i64 x.c] V fun e w' => ∃ v', e = .returned v' ∧ Owns w.heap.size w' v' (insAll [] [pc + 1, x.c]) ∧ Below V.heap.size V w') := Lib.hid fun V v hV hO =>
          with_step (T := [pc + 1, x.c]) (d := [pc + 1]) (r := []) (n := x.c) rfl (by simp) (by intro y hy; simp at hy; rcases hy with rfl | rfl; exact hpi; exact HX.out.b3) w.heap.size v V hV hO
        clear h h50x
        go_enter Try.func26, Try.ntmps26
        go_wp2_with fail
        have hwr : IntKind.i64.wrap (pc + 1) = pc + 1 := IntWalk.i64_in _ (by omega)
        have HC3 : Hid (((w.alloc (.cells #[.string f.name, .int .i64 f.params, .int .i64 f.regs, .slice (some ⟨gC, oC, none⟩) f.code.length caf] 38)).alloc (.cells #[.int .i64 x.op, .int .i64 x.a, .int .i64 x.b, .int .i64 x.c, .int .i64 x.at'] 44)).cell? ⟨w.heap.size + 1, 3, none⟩ = some (.int .i64 x.c)) := Lib.hid (by have := HX1.out.2.2.2.1; rwa [World.size_alloc] at this)
        go_region_held3 (fun w' => w'.cell? ⟨w.heap.size + 1, 3, none⟩ = some (.int .i64 x.c) ∧ Below w.heap.size w w')
          (first
            | exact ⟨HC3.out, Below.drew HB2.out⟩
            | assumption
            | (refine c3_keep (w := w) (b := w.heap.size + 1) (v := .int .i64 x.c) ?_ hbb; assumption))
          (first
            | (go_at_call 51; (with_reducible refine (HW1.out _ ?_).mono ?_); (go_split_ands; refine Below.size (B := w.heap.size) ?_; assumption); rintro e w' ⟨v1, rfl, ho1, hbb⟩)
            | (go_at_call 51; (with_reducible refine (HW2.out _ _ ?_ ?_).mono ?_); (go_split_ands; refine Below.size (B := w.heap.size) ?_; assumption); (exact ho1); rintro e w' ⟨v2, rfl, ho2, hbb⟩))
        all_goals
          have HZ : Hid (Below w.heap.size w w') := Lib.hid (by go_split_ands; assumption)
          go_wp2
          go_ret
          exact ⟨_, rfl, by rw [HR.out]; exact ho2, HZ.out⟩
      by_cases h : x.op = 50
      · have e30 : ((x.op : Int) == 30) = false := by simp [h]
        have e51 : ((x.op : Int) == 51) = false := by simp [h]
        have e16 : ((x.op : Int) == 16) = false := by simp [h]
        have e17 : ((x.op : Int) == 17) = false := by simp [h]
        have e45 : ((x.op : Int) == 45) = false := by simp [h]
        have e50 : ((x.op : Int) == 50) = true := by simp [h]
        have HR : Hid (nextF f pc = insAll [] [pc + 1 + x.b]) := Lib.hid (by rw [HNX.out]; unfold nextI; rw [if_neg (by omega), if_neg (by omega), if_neg (by omega), if_pos h, HPC.out]; rfl)
        have hb8 := h50x h
        have HW := Lib.hid (with_step (T := [pc + 1 + x.b]) (d := []) (r := []) (n := pc + 1 + x.b) rfl (by simp) (by intro y hy; simp at hy; subst hy; unfold i64; omega) w.heap.size (.slice none 0 0) ((w.alloc (.cells #[.string f.name, .int .i64 f.params, .int .i64 f.regs, .slice (some ⟨gC, oC, none⟩) f.code.length caf] 38)).alloc (.cells #[.int .i64 x.op, .int .i64 x.a, .int .i64 x.b, .int .i64 x.c, .int .i64 x.at'] 44)) (by simp; omega) (World.ownsRow_nil _ _ _ _))
        clear h h50x
        go_enter Try.func26, Try.ntmps26
        go_wp2_with fail
        refine HW.out.mono ?_
        rintro e w5 ⟨v5, rfl, ho5, hw5⟩
        go_wp2
        go_ret
        exact ⟨_, rfl, by rw [HR.out]; exact ho5, HB2.out.trans (hw5.mono HB2.out.size)⟩
      have HR : Hid (nextF f pc = insAll [] [pc + 1]) := Lib.hid (by rw [HNX.out]; unfold nextI; rw [if_neg (by omega), if_neg (by omega), if_neg (by omega), if_neg (by omega), HPC.out]; rfl)
      have e30 : ((x.op : Int) == 30) = false := by simp; omega
      have e51 : ((x.op : Int) == 51) = false := by simp; omega
      have e16 : ((x.op : Int) == 16) = false := by simp; omega
      have e17 : ((x.op : Int) == 17) = false := by simp; omega
      have e45 : ((x.op : Int) == 45) = false := by simp; omega
      have e50 : ((x.op : Int) == 50) = false := by simp; omega
      have HW := Lib.hid (with_step (T := [pc + 1]) (d := []) (r := []) (n := pc + 1) rfl (by simp) (by intro y hy; simp at hy; subst hy; exact hpi) w.heap.size (.slice none 0 0) ((w.alloc (.cells #[.string f.name, .int .i64 f.params, .int .i64 f.regs, .slice (some ⟨gC, oC, none⟩) f.code.length caf] 38)).alloc (.cells #[.int .i64 x.op, .int .i64 x.a, .int .i64 x.b, .int .i64 x.c, .int .i64 x.at'] 44)) (by simp; omega) (World.ownsRow_nil _ _ _ _))
      clear h50x
      go_enter Try.func26, Try.ntmps26
      go_wp2_with fail
      refine HW.out.mono ?_
      rintro e w5 ⟨v5, rfl, ho5, hw5⟩
      go_wp2
      go_ret
      exact ⟨_, rfl, by rw [HR.out]; exact ho5, HB2.out.trans (hw5.mono HB2.out.size)⟩
    · have d2 : decide ((f.code.length : Int) ≤ pc) = true := by simp; omega
      have HR : Hid (nextF f pc = []) := Lib.hid (by unfold nextF; rw [if_neg (by simp only [C.len]; omega)])
      go_enter Try.func26, Try.ntmps26
      go_wp2
      go_ret
      exact ⟨_, rfl, by rw [HR.out]; exact World.ownsRow_nil _ _ _ _, below1 _ _⟩
end Go.Proofs.Ytcjkhbggongcjaa
