/-
  The walk of the program's Next.
-/
import Derived.Test.YtekfhgldebhigaaDoorED
set_option linter.all false
namespace Go.Proofs.YtekfhgldebhigaaDoor
open Go.RowKit C
def nextF (f : Fc) (pc : Int) : List Int := if 0 ≤ pc ∧ pc < len f.code then nextI pc.toNat (f.code.getD pc.toNat default) else []
theorem own_new {w : World} {base : Nat} (l : List Int) (hb : base ≤ w.heap.size) (hl : l.length ≤ maxLen) : Owns base (w.alloc (.cells (l.map (Value.int .i64)).toArray 3)) (.slice (some ⟨w.heap.size, 0, none⟩) l.length l.length) l :=
  ⟨by simp, .inr ⟨w.heap.size, l.length, (l.map (Value.int .i64)).toArray, rfl, hb, heap_alloc_new w _, Nat.le_refl _, hl, by simp, by rw [Nat.mul_one]; exact List.take_of_length_le (by simp)⟩⟩
set_option maxRecDepth 100000 in
set_option maxHeartbeats 8000000 in
theorem cnext_any (f : Fc) (Af : Option Addr) (caf : Nat) (pc : Int) (w : World) (hf : FvOk w f Af caf) (h1000 : f.code.length ≤ 1000) (h50 : ∀ x ∈ f.code, x.op = 50 → 0 ≤ x.b ∧ x.b ≤ 8) (bp : i64 pc) :
    Calls Tryd.prog 15 #[fv f Af caf, .int .i64 pc] w (RetOwn (nextF f pc) w) := by
  have HBL := Lib.hid (below1 w (.cells #[.string f.name, .int .i64 f.params, .int .i64 f.regs, .slice Af f.code.length caf] 37))
  have HV := Lib.hid hf
  clear hf
  by_cases c1 : pc < 0
  · have d1 : decide (pc < 0) = true := by simpa using c1
    have HR : Hid (nextF f pc = []) := Lib.hid (by unfold nextF; rw [if_neg (by omega)])
    go_enter Tryd.func15, Tryd.ntmps15
    go_wp2
    go_ret
    exact ⟨_, rfl, by rw [HR.out]; exact World.ownsRow_nil _ _ _ _, below1 _ _⟩
  · have d1 : decide (pc < 0) = false := by simpa using c1
    by_cases c2 : pc < (f.code.length : Int)
    · have d2 : decide ((f.code.length : Int) ≤ pc) = false := by simp; omega
      obtain ⟨gC, oC, rfl, hC⟩ := HV.out.row.at (by omega)
      have hx := (hC pc.toNat (by omega)).below (below1 w (.cells #[.string f.name, .int .i64 f.params, .int .i64 f.regs, .slice (some ⟨gC, oC, none⟩) f.code.length caf] 37))
      obtain ⟨x, hxe⟩ : ∃ x, f.code[pc.toNat]'(by omega) = x := ⟨_, rfl⟩
      rw [hxe] at hx
      have h50x := h50 x (hxe ▸ List.getElem_mem _)
      have q0 := hx.c0
      have q1 := hx.c1
      have q2 := hx.c2
      have q3 := hx.c3
      have q4 := hx.c4
      have HX := Lib.hid hx
      have k0 : 0 ≤ pc := by omega
      have HNX : Hid (nextF f pc = nextI pc.toNat x) := Lib.hid (by unfold nextF; rw [if_pos ⟨k0, c2⟩, getDI (by omega), hxe])
      have HPC : Hid (((pc.toNat : Nat) : Int) = pc) := Lib.hid (by omega)
      clear hx hxe hC h50
      by_cases h : x.op = 30
      · have e30 : ((x.op : Int) == 30) = true := by simp [h]
        have e51 : ((x.op : Int) == 51) = false := by simp [h]
        have e16 : ((x.op : Int) == 16) = false := by simp [h]
        have e17 : ((x.op : Int) == 17) = false := by simp [h]
        have e45 : ((x.op : Int) == 45) = false := by simp [h]
        have e50 : ((x.op : Int) == 50) = false := by simp [h]
        have HR : Hid (nextF f pc = []) := Lib.hid (by rw [HNX.out]; unfold nextI; rw [if_pos (by omega)])
        clear h h50x
        go_enter Tryd.func15, Tryd.ntmps15
        go_wp2
        go_ret
        exact ⟨_, rfl, by rw [HR.out]; exact World.ownsRow_nil _ _ _ _, below2 _ _ _⟩
      by_cases h : x.op = 51
      · have e30 : ((x.op : Int) == 30) = false := by simp [h]
        have e51 : ((x.op : Int) == 51) = true := by simp [h]
        have e16 : ((x.op : Int) == 16) = false := by simp [h]
        have e17 : ((x.op : Int) == 17) = false := by simp [h]
        have e45 : ((x.op : Int) == 45) = false := by simp [h]
        have e50 : ((x.op : Int) == 50) = false := by simp [h]
        have HR : Hid (nextF f pc = []) := Lib.hid (by rw [HNX.out]; unfold nextI; rw [if_pos (by omega)])
        clear h h50x
        go_enter Tryd.func15, Tryd.ntmps15
        go_wp2
        go_ret
        exact ⟨_, rfl, by rw [HR.out]; exact World.ownsRow_nil _ _ _ _, below2 _ _ _⟩
      by_cases h : x.op = 16
      · have e30 : ((x.op : Int) == 30) = false := by simp [h]
        have e51 : ((x.op : Int) == 51) = false := by simp [h]
        have e16 : ((x.op : Int) == 16) = true := by simp [h]
        have e17 : ((x.op : Int) == 17) = false := by simp [h]
        have e45 : ((x.op : Int) == 45) = false := by simp [h]
        have e50 : ((x.op : Int) == 50) = false := by simp [h]
        have HR : Hid (nextF f pc = [x.c]) := Lib.hid (by rw [HNX.out]; unfold nextI; rw [if_neg (by omega), if_pos h])
        clear h h50x
        go_enter Tryd.func15, Tryd.ntmps15
        go_wp2
        go_ret
        have hW : Owns w.heap.size (((w.alloc (.cells #[.string f.name, .int .i64 f.params, .int .i64 f.regs, .slice (some ⟨gC, oC, none⟩) f.code.length caf] 37)).alloc (.cells #[.int .i64 x.op, .int .i64 x.a, .int .i64 x.b, .int .i64 x.c, .int .i64 x.at'] 34)).alloc (.cells #[.int .i64 (x.c)] 3)) (.slice (some ⟨w.heap.size + 2, 0, none⟩) 1 1) [x.c] := by
          have := own_new (base := w.heap.size) (w := (w.alloc (.cells #[.string f.name, .int .i64 f.params, .int .i64 f.regs, .slice (some ⟨gC, oC, none⟩) f.code.length caf] 37)).alloc (.cells #[.int .i64 x.op, .int .i64 x.a, .int .i64 x.b, .int .i64 x.c, .int .i64 x.at'] 34)) [x.c] (by simp; omega) (by unfold maxLen; simp)
          simpa using this
        exact ⟨_, rfl, by rw [HR.out]; exact hW, (below2 _ _ _).alloc (by simp; omega) _⟩
      by_cases h : x.op = 17
      · have e30 : ((x.op : Int) == 30) = false := by simp [h]
        have e51 : ((x.op : Int) == 51) = false := by simp [h]
        have e16 : ((x.op : Int) == 16) = false := by simp [h]
        have e17 : ((x.op : Int) == 17) = true := by simp [h]
        have e45 : ((x.op : Int) == 45) = false := by simp [h]
        have e50 : ((x.op : Int) == 50) = false := by simp [h]
        have HR : Hid (nextF f pc = insAll [] [pc + 1, x.c]) := Lib.hid (by rw [HNX.out]; unfold nextI; rw [if_neg (by omega), if_neg (by omega), if_pos (by omega), HPC.out]; rfl)
        clear h h50x
        go_enter Tryd.func15, Tryd.ntmps15
        go_wp2_with fail
        have hW : Owns w.heap.size (((w.alloc (.cells #[.string f.name, .int .i64 f.params, .int .i64 f.regs, .slice (some ⟨gC, oC, none⟩) f.code.length caf] 37)).alloc (.cells #[.int .i64 x.op, .int .i64 x.a, .int .i64 x.b, .int .i64 x.c, .int .i64 x.at'] 34)).alloc (.cells #[.int .i64 (pc + 1), .int .i64 x.c] 3)) (.slice (some ⟨w.heap.size + 2, 0, none⟩) 2 2) [pc + 1, x.c] := by
          have := own_new (base := w.heap.size) (w := (w.alloc (.cells #[.string f.name, .int .i64 f.params, .int .i64 f.regs, .slice (some ⟨gC, oC, none⟩) f.code.length caf] 37)).alloc (.cells #[.int .i64 x.op, .int .i64 x.a, .int .i64 x.b, .int .i64 x.c, .int .i64 x.at'] 34)) [pc + 1, x.c] (by simp; omega) (by unfold maxLen; simp)
          simpa using this
        refine (ordered_own w.heap.size _ [pc + 1, x.c] _ (by simp; omega) hW (by simp)).mono ?_
        rintro e w5 ⟨v5, rfl, ho5, hb5⟩
        go_wp2
        go_ret
        exact ⟨_, rfl, by rw [HR.out]; exact ho5, ((below2 _ _ _).alloc (by simp; omega) _).trans hb5⟩
      by_cases h : x.op = 45
      · have e30 : ((x.op : Int) == 30) = false := by simp [h]
        have e51 : ((x.op : Int) == 51) = false := by simp [h]
        have e16 : ((x.op : Int) == 16) = false := by simp [h]
        have e17 : ((x.op : Int) == 17) = false := by simp [h]
        have e45 : ((x.op : Int) == 45) = true := by simp [h]
        have e50 : ((x.op : Int) == 50) = false := by simp [h]
        have HR : Hid (nextF f pc = insAll [] [pc + 1, x.c]) := Lib.hid (by rw [HNX.out]; unfold nextI; rw [if_neg (by omega), if_neg (by omega), if_pos (by omega), HPC.out]; rfl)
        clear h h50x
        go_enter Tryd.func15, Tryd.ntmps15
        go_wp2_with fail
        have hW : Owns w.heap.size (((w.alloc (.cells #[.string f.name, .int .i64 f.params, .int .i64 f.regs, .slice (some ⟨gC, oC, none⟩) f.code.length caf] 37)).alloc (.cells #[.int .i64 x.op, .int .i64 x.a, .int .i64 x.b, .int .i64 x.c, .int .i64 x.at'] 34)).alloc (.cells #[.int .i64 (pc + 1), .int .i64 x.c] 3)) (.slice (some ⟨w.heap.size + 2, 0, none⟩) 2 2) [pc + 1, x.c] := by
          have := own_new (base := w.heap.size) (w := (w.alloc (.cells #[.string f.name, .int .i64 f.params, .int .i64 f.regs, .slice (some ⟨gC, oC, none⟩) f.code.length caf] 37)).alloc (.cells #[.int .i64 x.op, .int .i64 x.a, .int .i64 x.b, .int .i64 x.c, .int .i64 x.at'] 34)) [pc + 1, x.c] (by simp; omega) (by unfold maxLen; simp)
          simpa using this
        refine (ordered_own w.heap.size _ [pc + 1, x.c] _ (by simp; omega) hW (by simp)).mono ?_
        rintro e w5 ⟨v5, rfl, ho5, hb5⟩
        go_wp2
        go_ret
        exact ⟨_, rfl, by rw [HR.out]; exact ho5, ((below2 _ _ _).alloc (by simp; omega) _).trans hb5⟩
      by_cases h : x.op = 50
      · have e30 : ((x.op : Int) == 30) = false := by simp [h]
        have e51 : ((x.op : Int) == 51) = false := by simp [h]
        have e16 : ((x.op : Int) == 16) = false := by simp [h]
        have e17 : ((x.op : Int) == 17) = false := by simp [h]
        have e45 : ((x.op : Int) == 45) = false := by simp [h]
        have e50 : ((x.op : Int) == 50) = true := by simp [h]
        have HR : Hid (nextF f pc = [pc + 1 + x.b]) := Lib.hid (by rw [HNX.out]; unfold nextI; rw [if_neg (by omega), if_neg (by omega), if_neg (by omega), if_pos h, HPC.out])
        have hb8 := h50x h
        clear h h50x
        go_enter Tryd.func15, Tryd.ntmps15
        go_wp2
        go_ret
        have hW : Owns w.heap.size (((w.alloc (.cells #[.string f.name, .int .i64 f.params, .int .i64 f.regs, .slice (some ⟨gC, oC, none⟩) f.code.length caf] 37)).alloc (.cells #[.int .i64 x.op, .int .i64 x.a, .int .i64 x.b, .int .i64 x.c, .int .i64 x.at'] 34)).alloc (.cells #[.int .i64 (pc + 1 + x.b)] 3)) (.slice (some ⟨w.heap.size + 2, 0, none⟩) 1 1) [pc + 1 + x.b] := by
          have := own_new (base := w.heap.size) (w := (w.alloc (.cells #[.string f.name, .int .i64 f.params, .int .i64 f.regs, .slice (some ⟨gC, oC, none⟩) f.code.length caf] 37)).alloc (.cells #[.int .i64 x.op, .int .i64 x.a, .int .i64 x.b, .int .i64 x.c, .int .i64 x.at'] 34)) [pc + 1 + x.b] (by simp; omega) (by unfold maxLen; simp)
          simpa using this
        exact ⟨_, rfl, by rw [HR.out]; exact hW, (below2 _ _ _).alloc (by simp; omega) _⟩
      have HR : Hid (nextF f pc = [pc + 1]) := Lib.hid (by rw [HNX.out]; unfold nextI; rw [if_neg (by omega), if_neg (by omega), if_neg (by omega), if_neg (by omega), HPC.out])
      have e30 : ((x.op : Int) == 30) = false := by simp; omega
      have e51 : ((x.op : Int) == 51) = false := by simp; omega
      have e16 : ((x.op : Int) == 16) = false := by simp; omega
      have e17 : ((x.op : Int) == 17) = false := by simp; omega
      have e45 : ((x.op : Int) == 45) = false := by simp; omega
      have e50 : ((x.op : Int) == 50) = false := by simp; omega
      clear h50x
      go_enter Tryd.func15, Tryd.ntmps15
      go_wp2
      go_ret
      have hW : Owns w.heap.size (((w.alloc (.cells #[.string f.name, .int .i64 f.params, .int .i64 f.regs, .slice (some ⟨gC, oC, none⟩) f.code.length caf] 37)).alloc (.cells #[.int .i64 x.op, .int .i64 x.a, .int .i64 x.b, .int .i64 x.c, .int .i64 x.at'] 34)).alloc (.cells #[.int .i64 (pc + 1)] 3)) (.slice (some ⟨w.heap.size + 2, 0, none⟩) 1 1) [pc + 1] := by
        have := own_new (base := w.heap.size) (w := (w.alloc (.cells #[.string f.name, .int .i64 f.params, .int .i64 f.regs, .slice (some ⟨gC, oC, none⟩) f.code.length caf] 37)).alloc (.cells #[.int .i64 x.op, .int .i64 x.a, .int .i64 x.b, .int .i64 x.c, .int .i64 x.at'] 34)) [pc + 1] (by simp; omega) (by unfold maxLen; simp)
        simpa using this
      exact ⟨_, rfl, by rw [HR.out]; exact hW, (below2 _ _ _).alloc (by simp; omega) _⟩
    · have d2 : decide ((f.code.length : Int) ≤ pc) = true := by simp; omega
      have HR : Hid (nextF f pc = []) := Lib.hid (by unfold nextF; rw [if_neg (by simp only [C.len]; omega)])
      go_enter Tryd.func15, Tryd.ntmps15
      go_wp2
      go_ret
      exact ⟨_, rfl, by rw [HR.out]; exact World.ownsRow_nil _ _ _ _, below1 _ _⟩
end Go.Proofs.YtekfhgldebhigaaDoor
