/-
  The walks of the specification's EqualFunc and Equal.
-/
import Derived.Test.YtlkaeonedijfpaaYA
import Derived.Test.YtlkaeonedijfpaaRH
set_option linter.all false
namespace Go.Proofs.Ytlkaeonedijfpaa
open Go.RowKit C
theorem heap2 (w : World) (o1 o2 : Obj) : ((w.alloc o1).alloc o2).heap[w.heap.size + 1]? = some o2 := by
  have h := heap_alloc_new (w.alloc o1) o2
  rw [World.size_alloc] at h; exact h
theorem take_eq {α : Type} {l m : List α} {k : Nat} (h1 : k < l.length) (h2 : k < m.length) (he : l.take k = m.take k) (hk : l[k] = m[k]) : l.take (k + 1) = m.take (k + 1) := by
  rw [List.take_succ_eq_append_getElem h1, List.take_succ_eq_append_getElem h2, he, hk]
theorem ne_at {α : Type} {l m : List α} {k : Nat} (h1 : k < l.length) (h2 : k < m.length) (hne : ¬ l[k] = m[k]) : ¬ l = m := fun e => by subst e; exact hne rfl
theorem take_all {α : Type} {l m : List α} (h : l.length = m.length) (he : l.take l.length = m.take l.length) : l = m := by
  rw [List.take_length, h, List.take_length] at he; exact he
theorem toList_inj {a b : ByteArray} (h : a.toList = b.toList) : a = b := by
  rw [ByteArray.toList_eq, ByteArray.toList_eq] at h; exact ByteArray.ext (Array.toList_inj.1 h)
theorem topb (W : World) (o1 o2 : Obj) : ((W.alloc o1).alloc o2).heap[W.heap.size]? = some o1 ∧ ((W.alloc o1).alloc o2).heap[W.heap.size + 1]? = some o2 := ⟨heap2a W o1 o2, heap2 W o1 o2⟩
theorem bel2s {W V : World} {o1 o2 : Obj} (h : Below ((W.alloc o1).alloc o2).heap.size ((W.alloc o1).alloc o2) V) : Below W.heap.size W V := (below2 W o1 o2).trans (h.mono (by simp; omega))
set_option maxRecDepth 100000 in
set_option maxHeartbeats 8000000 in
theorem reqFn_any (f g : Fc) (A B : Option Addr) (ca cb : Nat) (w : World) (hf : FvOk w f A ca) (hg : FvOk w g B cb) :
    Calls Try.prog 35 #[fv f A ca, fv g B cb] w fun e w' => e = .returned (.bool (decide (f = g))) ∧ Below w.heap.size w w' := by
  have HA := Lib.hid hf
  have HB := Lib.hid hg
  have hl := hf.k.2
  have hm := hg.k.2
  unfold maxLen at hl hm
  clear hf hg
  by_cases h0 : f.name = g.name
  · have e0 : (f.name.toList == g.name.toList) = true := by simp [h0]
    have g0 : (f.name.toList != g.name.toList) = false := by simp [h0]
    by_cases h1 : f.params = g.params
    · have e1 : ((f.params : Int) == g.params) = true := by simp [h1]
      have g1 : ((f.params : Int) != g.params) = false := by simp [h1]
      by_cases h2 : f.regs = g.regs
      · have e2 : ((f.regs : Int) == g.regs) = true := by simp [h2]
        have g2 : ((f.regs : Int) != g.regs) = false := by simp [h2]
        by_cases h3 : f.code.length = g.code.length
        · have e3 : ((f.code.length : Int) != (g.code.length : Int)) = false := by simp; omega
          have HNE := Lib.hid h3
          have HE0 : Hid (f.code = g.code → f = g) := Lib.hid (by intro e; cases f; cases g; simp_all)
          clear h0 h1 h2 h3
          have HT := Lib.hid (topb w (.cells #[.string f.name, .int .i64 f.params, .int .i64 f.regs, .slice A f.code.length ca] 55) (.cells #[.string g.name, .int .i64 g.params, .int .i64 g.regs, .slice B g.code.length cb] 55))
          go_enter Try.func35, Try.ntmps35
          go_wp2
          go_loopw [5] (fun i wr => ∃ k : Nat, k ≤ f.code.length ∧ i = .int .i64 k ∧ Hid (f.code.take k = g.code.take k) ∧ Hid (Below ((w.alloc (.cells #[.string f.name, .int .i64 f.params, .int .i64 f.regs, .slice A f.code.length ca] 55)).alloc (.cells #[.string g.name, .int .i64 g.params, .int .i64 g.regs, .slice B g.code.length cb] 55)).heap.size ((w.alloc (.cells #[.string f.name, .int .i64 f.params, .int .i64 f.regs, .slice A f.code.length ca] 55)).alloc (.cells #[.string g.name, .int .i64 g.params, .int .i64 g.regs, .slice B g.code.length cb] 55)) wr)) (fun i _ => f.code.length - (intOf i).toNat)
          case atStart => exact ⟨0, Nat.zero_le _, rfl, Lib.hid rfl, Lib.hid (Below.refl _ _)⟩
          case round =>
            obtain ⟨k, hk, rfl, he, hd⟩ := hrel
            obtain ⟨⟨x0, x1, x2, x3⟩, -⟩ := cells4 ((hd.out.block w.heap.size (by simp; omega)).trans HT.out.1)
            obtain ⟨⟨y0, y1, y2, y3⟩, -⟩ := cells4 ((hd.out.block (w.heap.size + 1) (by simp)).trans HT.out.2)
            by_cases hkl : k < f.code.length
            · have hkm : k < g.code.length := by have := HNE.out; omega
              obtain ⟨gx, ox, rfl, hA⟩ := HA.out.row.at (by omega)
              obtain ⟨gy, oy, rfl, hB⟩ := HB.out.row.at (by omega)
              have hx := (hA k hkl).below (bel2s hd.out)
              have hy := (hB k hkm).below (bel2s hd.out)
              obtain ⟨x, hxe⟩ : ∃ x, f.code[k] = x := ⟨_, rfl⟩
              obtain ⟨y, hye⟩ : ∃ y, g.code[k] = y := ⟨_, rfl⟩
              rw [hxe] at hx
              rw [hye] at hy
              have a0 := hx.c0
              have a1 := hx.c1
              have a2 := hx.c2
              have a3 := hx.c3
              have a4 := hx.c4
              have b0 := hy.c0
              have b1 := hy.c1
              have b2 := hy.c2
              have b3 := hy.c3
              have b4 := hy.c4
              have HX := Lib.hid hxe
              have HY := Lib.hid hye
              have kk0 : (0 : Int) ≤ (k : Int) := by omega
              have kk1 : (k : Int) < (f.code.length : Int) := by omega
              have kk2 : (k : Int) < (g.code.length : Int) := by omega
              clear hx hy hxe hye hA hB
              by_cases h5 : x.op = y.op
              · have e5 : ((x.op : Int) == y.op) = true := by simp [h5]
                have g5 : ((x.op : Int) != y.op) = false := by simp [h5]
                by_cases h6 : x.a = y.a
                · have e6 : ((x.a : Int) == y.a) = true := by simp [h6]
                  have g6 : ((x.a : Int) != y.a) = false := by simp [h6]
                  by_cases h7 : x.b = y.b
                  · have e7 : ((x.b : Int) == y.b) = true := by simp [h7]
                    have g7 : ((x.b : Int) != y.b) = false := by simp [h7]
                    by_cases h8 : x.c = y.c
                    · have e8 : ((x.c : Int) == y.c) = true := by simp [h8]
                      have g8 : ((x.c : Int) != y.c) = false := by simp [h8]
                      by_cases h9 : x.at' = y.at'
                      · have e9 : ((x.at' : Int) == y.at') = true := by simp [h9]
                        have g9 : ((x.at' : Int) != y.at') = false := by simp [h9]
                        have HE : Hid (f.code.take (k + 1) = g.code.take (k + 1)) := Lib.hid (take_eq hkl hkm he.out (by rw [HX.out, HY.out]; cases x; cases y; simp_all))
                        clear h5 h6 h7 h8 h9
                        go_wp2_with fail
                        go_quiet (fail)
                        go_wp2
                        go_roundw
                        case rel => exact ⟨k + 1, by omega, by go_num, HE, Lib.hid (bel_drewN hd.out _)⟩
                        case measure => simp [intOf]; omega
                      · have e9 : ((x.at' : Int) == y.at') = false := by simp [h9]
                        have g9 : ((x.at' : Int) != y.at') = true := by simp [h9]
                        have HE : Hid (decide (f = g) = false) := Lib.hid (decide_eq_false (fun e => ne_at hkl hkm (by rw [HX.out, HY.out]; intro e; exact h9 (by rw [e])) (by rw [e])))
                        clear h5 h6 h7 h8 h9
                        go_wp2_with fail
                        go_quiet (fail)
                        go_wp2
                        go_ret
                        exact ⟨retb HE.out.symm, bel2s (bel_drewN hd.out _)⟩
                    · have e8 : ((x.c : Int) == y.c) = false := by simp [h8]
                      have g8 : ((x.c : Int) != y.c) = true := by simp [h8]
                      have HE : Hid (decide (f = g) = false) := Lib.hid (decide_eq_false (fun e => ne_at hkl hkm (by rw [HX.out, HY.out]; intro e; exact h8 (by rw [e])) (by rw [e])))
                      clear h5 h6 h7 h8
                      go_wp2_with fail
                      go_quiet (fail)
                      go_wp2
                      go_ret
                      exact ⟨retb HE.out.symm, bel2s (bel_drewN hd.out _)⟩
                  · have e7 : ((x.b : Int) == y.b) = false := by simp [h7]
                    have g7 : ((x.b : Int) != y.b) = true := by simp [h7]
                    have HE : Hid (decide (f = g) = false) := Lib.hid (decide_eq_false (fun e => ne_at hkl hkm (by rw [HX.out, HY.out]; intro e; exact h7 (by rw [e])) (by rw [e])))
                    clear h5 h6 h7
                    go_wp2_with fail
                    go_quiet (fail)
                    go_wp2
                    go_ret
                    exact ⟨retb HE.out.symm, bel2s (bel_drewN hd.out _)⟩
                · have e6 : ((x.a : Int) == y.a) = false := by simp [h6]
                  have g6 : ((x.a : Int) != y.a) = true := by simp [h6]
                  have HE : Hid (decide (f = g) = false) := Lib.hid (decide_eq_false (fun e => ne_at hkl hkm (by rw [HX.out, HY.out]; intro e; exact h6 (by rw [e])) (by rw [e])))
                  clear h5 h6
                  go_wp2_with fail
                  go_quiet (fail)
                  go_wp2
                  go_ret
                  exact ⟨retb HE.out.symm, bel2s (bel_drewN hd.out _)⟩
              · have e5 : ((x.op : Int) == y.op) = false := by simp [h5]
                have g5 : ((x.op : Int) != y.op) = true := by simp [h5]
                have HE : Hid (decide (f = g) = false) := Lib.hid (decide_eq_false (fun e => ne_at hkl hkm (by rw [HX.out, HY.out]; intro e; exact h5 (by rw [e])) (by rw [e])))
                clear h5
                go_wp2_with fail
                go_quiet (fail)
                go_wp2
                go_ret
                exact ⟨retb HE.out.symm, bel2s (bel_drewN hd.out _)⟩
            · obtain rfl : k = f.code.length := by omega
              have HE : Hid (decide (f = g) = true) := Lib.hid (decide_eq_true (HE0.out (take_all HNE.out he.out)))
              go_wp2
              go_ret
              exact ⟨retb HE.out.symm, bel2s hd.out⟩
        · have e3 : ((f.code.length : Int) != (g.code.length : Int)) = true := by simp; omega
          have HE : Hid (decide (f = g) = false) := Lib.hid (decide_eq_false (fun e => h3 (by rw [e])))
          clear h0 h1 h2 h3
          go_enter Try.func35, Try.ntmps35
          go_wp2
          go_ret
          exact ⟨retb HE.out.symm, below2 _ _ _⟩
      · have e2 : ((f.regs : Int) == g.regs) = false := by simp [h2]
        have g2 : ((f.regs : Int) != g.regs) = true := by simp [h2]
        have HE : Hid (decide (f = g) = false) := Lib.hid (decide_eq_false (fun e => h2 (by rw [e])))
        clear h0 h1 h2
        go_enter Try.func35, Try.ntmps35
        go_wp2
        go_ret
        exact ⟨retb HE.out.symm, below2 _ _ _⟩
    · have e1 : ((f.params : Int) == g.params) = false := by simp [h1]
      have g1 : ((f.params : Int) != g.params) = true := by simp [h1]
      have HE : Hid (decide (f = g) = false) := Lib.hid (decide_eq_false (fun e => h1 (by rw [e])))
      clear h0 h1
      go_enter Try.func35, Try.ntmps35
      go_wp2
      go_ret
      exact ⟨retb HE.out.symm, below2 _ _ _⟩
  · have k0 : ¬ f.name.toList = g.name.toList := fun e => h0 (toList_inj e)
    have e0 : (f.name.toList == g.name.toList) = false := by simpa using k0
    have g0 : (f.name.toList != g.name.toList) = true := by simpa using k0
    clear k0
    have HE : Hid (decide (f = g) = false) := Lib.hid (decide_eq_false (fun e => h0 (by rw [e])))
    clear h0
    go_enter Try.func35, Try.ntmps35
    go_wp2
    go_ret
    exact ⟨retb HE.out.symm, below2 _ _ _⟩
end Go.Proofs.Ytlkaeonedijfpaa
