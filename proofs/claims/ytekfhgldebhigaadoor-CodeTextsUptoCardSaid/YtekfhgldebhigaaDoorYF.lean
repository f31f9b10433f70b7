/-
  The walks of the specification's EqualFunc and Equal.
  The walk of the specification's Equal.
-/
import Derived.Test.YtekfhgldebhigaaDoorTP
import Derived.Test.YtekfhgldebhigaaDoorEG
import Derived.Deep.RegionHeld3
set_option linter.all false
namespace Go.Proofs.YtekfhgldebhigaaDoor
open Go.RowKit C
theorem topb (W : World) (o1 o2 : Obj) : ((W.alloc o1).alloc o2).heap[W.heap.size]? = some o1 ∧ ((W.alloc o1).alloc o2).heap[W.heap.size + 1]? = some o2 := ⟨heap2a W o1 o2, heap2 W o1 o2⟩
theorem bel2s {W V : World} {o1 o2 : Obj} (h : Below ((W.alloc o1).alloc o2).heap.size ((W.alloc o1).alloc o2) V) : Below W.heap.size W V := (below2 W o1 o2).trans (h.mono (by simp; omega))
set_option maxRecDepth 100000 in
set_option maxHeartbeats 8000000 in
theorem reqFn_any (f g : Fc) (A B : Option Addr) (ca cb : Nat) (w : World) (hf : FvOk w f A ca) (hg : FvOk w g B cb) :
    Calls Tryd.prog 28 #[fv f A ca, fv g B cb] w fun e w' => e = .returned (.bool (decide (f = g))) ∧ Below w.heap.size w w' := by
  have HA := Lib.hid hf
  have HB := Lib.hid hg
  have hl := hf.k.2
  have hm := hg.k.2
  unfold maxLen at hl hm
  clear hf hg
  by_cases h0 : f.name = g.name
  · have e0 : (f.name.toList == g.name.toList) = true := by simp [h0]
    have g0 : (f.name.toList != g.name.toList) = false := by simp [h0]
    by_cases h1 : f.params = g.params
    · have e1 : ((f.params : Int) == g.params) = true := by simp [h1]
      have g1 : ((f.params : Int) != g.params) = false := by simp [h1]
      by_cases h2 : f.regs = g.regs
      · have e2 : ((f.regs : Int) == g.regs) = true := by simp [h2]
        have g2 : ((f.regs : Int) != g.regs) = false := by simp [h2]
        by_cases h3 : f.code.length = g.code.length
        · have e3 : ((f.code.length : Int) != (g.code.length : Int)) = false := by simp; omega
          have HNE := Lib.hid h3
          have HE0 : Hid (f.code = g.code → f = g) := Lib.hid (by intro e; cases f; cases g; simp_all)
          clear h0 h1 h2 h3
          have HT := Lib.hid (topb w (.cells #[.string f.name, .int .i64 f.params, .int .i64 f.regs, .slice A f.code.length ca] 37) (.cells #[.string g.name, .int .i64 g.params, .int .i64 g.regs, .slice B g.code.length cb] 37))
          go_enter Tryd.func28, Tryd.ntmps28
          go_wp2
          go_loopw [5] (fun i wr => ∃ k : Nat, k ≤ f.code.length ∧ i = .int .i64 k ∧ Hid (f.code.take k = g.code.take k) ∧ Hid (Below ((w.alloc (.cells #[.string f.name, .int .i64 f.params, .int .i64 f.regs, .slice A f.code.length ca] 37)).alloc (.cells #[.string g.name, .int .i64 g.params, .int .i64 g.regs, .slice B g.code.length cb] 37)).heap.size ((w.alloc (.cells #[.string f.name, .int .i64 f.params, .int .i64 f.regs, .slice A f.code.length ca] 37)).alloc (.cells #[.string g.name, .int .i64 g.params, .int .i64 g.regs, .slice B g.code.length cb] 37)) wr)) (fun i _ => f.code.length - (intOf i).toNat)
          case atStart => exact ⟨0, Nat.zero_le _, rfl, Lib.hid rfl, Lib.hid (Below.refl _ _)⟩
          case round =>
            obtain ⟨k, hk, rfl, he, hd⟩ := hrel
            obtain ⟨⟨x0, x1, x2, x3⟩, -⟩ := cells4 ((hd.out.block w.heap.size (by simp; omega)).trans HT.out.1)
            obtain ⟨⟨y0, y1, y2, y3⟩, -⟩ := cells4 ((hd.out.block (w.heap.size + 1) (by simp)).trans HT.out.2)
            by_cases hkl : k < f.code.length
            · have hkm : k < g.code.length := by have := HNE.out; omega
              obtain ⟨gx, ox, rfl, hA⟩ := HA.out.row.at (by omega)
              obtain ⟨gy, oy, rfl, hB⟩ := HB.out.row.at (by omega)
              have hx := (hA k hkl).below (bel2s hd.out)
              have hy := (hB k hkm).below (bel2s hd.out)
              obtain ⟨x, hxe⟩ : ∃ x, f.code[k] = x := ⟨_, rfl⟩
              obtain ⟨y, hye⟩ : ∃ y, g.code[k] = y := ⟨_, rfl⟩
              rw [hxe] at hx
              rw [hye] at hy
              have a0 := hx.c0
              have a1 := hx.c1
              have a2 := hx.c2
              have a3 := hx.c3
              have a4 := hx.c4
              have b0 := hy.c0
              have b1 := hy.c1
              have b2 := hy.c2
              have b3 := hy.c3
              have b4 := hy.c4
              have HX := Lib.hid hxe
              have HY := Lib.hid hye
              have kk0 : (0 : Int) ≤ (k : Int) := by omega
              have kk1 : (k : Int) < (f.code.length : Int) := by omega
              have kk2 : (k : Int) < (g.code.length : Int) := by omega
              clear hx hy hxe hye hA hB
              by_cases h5 : x.op = y.op
              · have e5 : ((x.op : Int) == y.op) = true := by simp [h5]
                have g5 : ((x.op : Int) != y.op) = false := by simp [h5]
                by_cases h6 : x.a = y.a
                · have e6 : ((x.a : Int) == y.a) = true := by simp [h6]
                  have g6 : ((x.a : Int) != y.a) = false := by simp [h6]
                  by_cases h7 : x.b = y.b
                  · have e7 : ((x.b : Int) == y.b) = true := by simp [h7]
                    have g7 : ((x.b : Int) != y.b) = false := by simp [h7]
                    by_cases h8 : x.c = y.c
                    · have e8 : ((x.c : Int) == y.c) = true := by simp [h8]
                      have g8 : ((x.c : Int) != y.c) = false := by simp [h8]
                      by_cases h9 : x.at' = y.at'
                      · have e9 : ((x.at' : Int) == y.at') = true := by simp [h9]
                        have g9 : ((x.at' : Int) != y.at') = false := by simp [h9]
                        have HE : Hid (f.code.take (k + 1) = g.code.take (k + 1)) := Lib.hid (take_eq hkl hkm he.out (by rw [HX.out, HY.out]; cases x; cases y; simp_all))
                        clear h5 h6 h7 h8 h9
                        go_wp2_with fail
                        go_quiet (fail)
                        go_wp2
                        go_roundw
                        case rel => exact ⟨k + 1, by omega, by go_num, HE, Lib.hid (bel_drewN hd.out _)⟩
                        case measure => simp [intOf]; omega
                      · have e9 : ((x.at' : Int) == y.at') = false := by simp [h9]
                        have g9 : ((x.at' : Int) != y.at') = true := by simp [h9]
                        have HE : Hid (decide (f = g) = false) := Lib.hid (decide_eq_false (fun e => ne_at hkl hkm (by rw [HX.out, HY.out]; intro e; exact h9 (by rw [e])) (by rw [e])))
                        clear h5 h6 h7 h8 h9
                        go_wp2_with fail
                        go_quiet (fail)
                        go_wp2
                        go_ret
                        exact ⟨retb HE.out.symm, bel2s (bel_drewN hd.out _)⟩
                    · have e8 : ((x.c : Int) == y.c) = false := by simp [h8]
                      have g8 : ((x.c : Int) != y.c) = true := by simp [h8]
                      have HE : Hid (decide (f = g) = false) := Lib.hid (decide_eq_false (fun e => ne_at hkl hkm (by rw [HX.out, HY.out]; intro e; exact h8 (by rw [e])) (by rw [e])))
                      clear h5 h6 h7 h8
                      go_wp2_with fail
                      go_quiet (fail)
                      go_wp2
                      go_ret
                      exact ⟨retb HE.out.symm, bel2s (bel_drewN hd.out _)⟩
                  · have e7 : ((x.b : Int) == y.b) = false := by simp [h7]
                    have g7 : ((x.b : Int) != y.b) = true := by simp [h7]
                    have HE : Hid (decide (f = g) = false) := Lib.hid (decide_eq_false (fun e => ne_at hkl hkm (by rw [HX.out, HY.out]; intro e; exact h7 (by rw [e])) (by rw [e])))
                    clear h5 h6 h7
                    go_wp2_with fail
                    go_quiet (fail)
                    go_wp2
                    go_ret
                    exact ⟨retb HE.out.symm, bel2s (bel_drewN hd.out _)⟩
                · have e6 : ((x.a : Int) == y.a) = false := by simp [h6]
                  have g6 : ((x.a : Int) != y.a) = true := by simp [h6]
                  have HE : Hid (decide (f = g) = false) := Lib.hid (decide_eq_false (fun e => ne_at hkl hkm (by rw [HX.out, HY.out]; intro e; exact h6 (by rw [e])) (by rw [e])))
                  clear h5 h6
                  go_wp2_with fail
                  go_quiet (fail)
                  go_wp2
                  go_ret
                  exact ⟨retb HE.out.symm, bel2s (bel_drewN hd.out _)⟩
              · have e5 : ((x.op : Int) == y.op) = false := by simp [h5]
                have g5 : ((x.op : Int) != y.op) = true := by simp [h5]
                have HE : Hid (decide (f = g) = false) := Lib.hid (decide_eq_false (fun e => ne_at hkl hkm (by rw [HX.out, HY.out]; intro e; exact h5 (by rw [e])) (by rw [e])))
                clear h5
                go_wp2_with fail
                go_quiet (fail)
                go_wp2
                go_ret
                exact ⟨retb HE.out.symm, bel2s (bel_drewN hd.out _)⟩
            · obtain rfl : k = f.code.length := by omega
              have HE : Hid (decide (f = g) = true) := Lib.hid (decide_eq_true (HE0.out (take_all HNE.out he.out)))
              go_wp2
              go_ret
              exact ⟨retb HE.out.symm, bel2s hd.out⟩
        · have e3 : ((f.code.length : Int) != (g.code.length : Int)) = true := by simp; omega
          have HE : Hid (decide (f = g) = false) := Lib.hid (decide_eq_false (fun e => h3 (by rw [e])))
          clear h0 h1 h2 h3
          go_enter Tryd.func28, Tryd.ntmps28
          go_wp2
          go_ret
          exact ⟨retb HE.out.symm, below2 _ _ _⟩
      · have e2 : ((f.regs : Int) == g.regs) = false := by simp [h2]
        have g2 : ((f.regs : Int) != g.regs) = true := by simp [h2]
        have HE : Hid (decide (f = g) = false) := Lib.hid (decide_eq_false (fun e => h2 (by rw [e])))
        clear h0 h1 h2
        go_enter Tryd.func28, Tryd.ntmps28
        go_wp2
        go_ret
        exact ⟨retb HE.out.symm, below2 _ _ _⟩
    · have e1 : ((f.params : Int) == g.params) = false := by simp [h1]
      have g1 : ((f.params : Int) != g.params) = true := by simp [h1]
      have HE : Hid (decide (f = g) = false) := Lib.hid (decide_eq_false (fun e => h1 (by rw [e])))
      clear h0 h1
      go_enter Tryd.func28, Tryd.ntmps28
      go_wp2
      go_ret
      exact ⟨retb HE.out.symm, below2 _ _ _⟩
  · have k0 : ¬ f.name.toList = g.name.toList := fun e => h0 (toList_inj e)
    have e0 : (f.name.toList == g.name.toList) = false := by simpa using k0
    have g0 : (f.name.toList != g.name.toList) = true := by simpa using k0
    clear k0
    have HE : Hid (decide (f = g) = false) := Lib.hid (decide_eq_false (fun e => h0 (by rw [e])))
    clear h0
    go_enter Tryd.func28, Tryd.ntmps28
    go_wp2
    go_ret
    exact ⟨retb HE.out.symm, below2 _ _ _⟩
end Go.Proofs.YtekfhgldebhigaaDoor

namespace Go.Proofs.YtekfhgldebhigaaDoor
open Go.RowKit C
theorem bel_more {n : Nat} {U V W : World} (h : Below n U V) (hn : n ≤ V.heap.size) (hb : Below V.heap.size V W) : Below n U W := h.trans (hb.mono hn)
theorem bel2h {n : Nat} {W V : World} {o1 o2 : Obj} (hn : n = ((W.alloc o1).alloc o2).heap.size) (h : Below n ((W.alloc o1).alloc o2) V) : n ≤ V.heap.size := by rw [hn]; exact h.size
theorem keep4 {U V W : World} {a0 o0 a1 o1 a2 o2 a3 o3 : Nat} {v0 v1 v2 v3 : Value} (h : V.cell? ⟨a0, o0, none⟩ = some v0 ∧ V.cell? ⟨a1, o1, none⟩ = some v1 ∧ V.cell? ⟨a2, o2, none⟩ = some v2 ∧ V.cell? ⟨a3, o3, none⟩ = some v3 ∧ Below U.heap.size U V) (hb : Below V.heap.size V W) : W.cell? ⟨a0, o0, none⟩ = some v0 ∧ W.cell? ⟨a1, o1, none⟩ = some v1 ∧ W.cell? ⟨a2, o2, none⟩ = some v2 ∧ W.cell? ⟨a3, o3, none⟩ = some v3 ∧ Below U.heap.size U W := by
  obtain ⟨y0, y1, y2, y3, b⟩ := h
  exact ⟨cell_bel y0 hb, cell_bel y1 hb, cell_bel y2 hb, cell_bel y3 hb, b.trans (hb.mono b.size)⟩
theorem keep10 {U V W : World} {a0 o0 a1 o1 a2 o2 a3 o3 a4 o4 a5 o5 a6 o6 a7 o7 a8 o8 a9 o9 : Nat} {v0 v1 v2 v3 v4 v5 v6 v7 v8 v9 : Value} (h : V.cell? ⟨a0, o0, none⟩ = some v0 ∧ V.cell? ⟨a1, o1, none⟩ = some v1 ∧ V.cell? ⟨a2, o2, none⟩ = some v2 ∧ V.cell? ⟨a3, o3, none⟩ = some v3 ∧ V.cell? ⟨a4, o4, none⟩ = some v4 ∧ V.cell? ⟨a5, o5, none⟩ = some v5 ∧ V.cell? ⟨a6, o6, none⟩ = some v6 ∧ V.cell? ⟨a7, o7, none⟩ = some v7 ∧ V.cell? ⟨a8, o8, none⟩ = some v8 ∧ V.cell? ⟨a9, o9, none⟩ = some v9 ∧ Below U.heap.size U V) (hb : Below V.heap.size V W) : W.cell? ⟨a0, o0, none⟩ = some v0 ∧ W.cell? ⟨a1, o1, none⟩ = some v1 ∧ W.cell? ⟨a2, o2, none⟩ = some v2 ∧ W.cell? ⟨a3, o3, none⟩ = some v3 ∧ W.cell? ⟨a4, o4, none⟩ = some v4 ∧ W.cell? ⟨a5, o5, none⟩ = some v5 ∧ W.cell? ⟨a6, o6, none⟩ = some v6 ∧ W.cell? ⟨a7, o7, none⟩ = some v7 ∧ W.cell? ⟨a8, o8, none⟩ = some v8 ∧ W.cell? ⟨a9, o9, none⟩ = some v9 ∧ Below U.heap.size U W := by
  obtain ⟨y0, y1, y2, y3, y4, y5, y6, y7, y8, y9, b⟩ := h
  exact ⟨cell_bel y0 hb, cell_bel y1 hb, cell_bel y2 hb, cell_bel y3 hb, cell_bel y4 hb, cell_bel y5 hb, cell_bel y6 hb, cell_bel y7 hb, cell_bel y8 hb, cell_bel y9 hb, b.trans (hb.mono b.size)⟩
set_option maxRecDepth 100000 in
set_option maxHeartbeats 16000000 in
theorem requal_any (p : Pg) (A B D : Option Addr) (ca cb cd : Nat) (q : Pg) (A' B' D' : Option Addr) (ca' cb' cd' : Nat) (w : World) (hp : PgAt w p A B D ca cb cd) (hq : PgAt w q A' B' D' ca' cb' cd') :
    Calls Tryd.prog 10 #[pv p A B D ca cb cd, pv q A' B' D' ca' cb' cd'] w fun e w' => e = .returned (.bool (decide (p = q))) ∧ Below w.heap.size w w' := by
  have HP := Lib.hid hp
  have HQ := Lib.hid hq
  have hm1 := hp.ka.2
  have hm2 := hp.kb.2
  have hm3 := hp.kd.2
  have hm4 := hq.ka.2
  have hm5 := hq.kb.2
  have hm6 := hq.kd.2
  unfold maxLen at hm1 hm2 hm3 hm4 hm5 hm6
  clear hp hq
  by_cases h0 : p.main = q.main
  · have e0 : ((p.main : Int) == q.main) = true := by simp [h0]
    have g0 : ((p.main : Int) != q.main) = false := by simp [h0]
    by_cases h1 : p.funcs.length = q.funcs.length
    · have e1 : ((p.funcs.length : Int) != (q.funcs.length : Int)) = false := by simp; omega
      have Nf := Lib.hid h1
      by_cases h2 : p.globals.length = q.globals.length
      · have e2 : ((p.globals.length : Int) != (q.globals.length : Int)) = false := by simp; omega
        have Ng := Lib.hid h2
        by_cases h3 : p.layouts.length = q.layouts.length
        · have e3 : ((p.layouts.length : Int) != (q.layouts.length : Int)) = false := by simp; omega
          have Nl := Lib.hid h3
          have HE0 : Hid (p.funcs = q.funcs → p.globals = q.globals → p.layouts = q.layouts → p = q) := Lib.hid (by intro e1 e2 e3; cases p; cases q; simp_all)
          clear h0 h1 h2 h3
          obtain ⟨U, hU⟩ : ∃ U, U = ((w.alloc (.cells #[.slice A p.funcs.length ca, .slice B p.globals.length cb, .slice D p.layouts.length cd, .int .i64 p.main] 26)).alloc (.cells #[.slice A' q.funcs.length ca', .slice B' q.globals.length cb', .slice D' q.layouts.length cd', .int .i64 q.main] 26)) := ⟨_, rfl⟩
          have HT : Hid (U.heap[w.heap.size]? = some (.cells #[.slice A p.funcs.length ca, .slice B p.globals.length cb, .slice D p.layouts.length cd, .int .i64 p.main] 26) ∧ U.heap[w.heap.size + 1]? = some (.cells #[.slice A' q.funcs.length ca', .slice B' q.globals.length cb', .slice D' q.layouts.length cd', .int .i64 q.main] 26)) := Lib.hid (by rw [hU]; exact topb w _ _)
          have HUB : Hid (Below w.heap.size w U) := Lib.hid (by rw [hU]; exact below2 _ _ _)
          have HUS : Hid (U.heap.size = w.heap.size + 1 + 1) := Lib.hid (by rw [hU]; simp)
          have HU := Lib.hid hU
          clear hU
          go_enter Tryd.func10, Tryd.ntmps10
          go_wp2
          go_loopw [5] (fun i wr => ∃ k : Nat, k ≤ p.funcs.length ∧ i = .int .i64 k ∧ Hid (p.funcs.take k = q.funcs.take k) ∧ Hid (Below U.heap.size U wr)) (fun i _ => p.funcs.length - (intOf i).toNat)
          case atStart => exact ⟨0, Nat.zero_le _, rfl, Lib.hid rfl, Lib.hid (by rw [HU.out]; exact Below.refl _ _)⟩
          case round =>
            obtain ⟨k, hk, rfl, he, hd⟩ := hrel
            obtain ⟨⟨x0, x1, x2, x3⟩, -⟩ := cells4 ((hd.out.block w.heap.size (by rw [HUS.out]; omega)).trans HT.out.1)
            obtain ⟨⟨y0, y1, y2, y3⟩, -⟩ := cells4 ((hd.out.block (w.heap.size + 1) (by rw [HUS.out]; omega)).trans HT.out.2)
            by_cases hkl : k < p.funcs.length
            · have hkm : k < q.funcs.length := by have := Nf.out; omega
              obtain ⟨gx, ox, rfl, hA⟩ := HP.out.fs.at (by omega)
              obtain ⟨gy, oy, rfl, hB⟩ := HQ.out.fs.at (by omega)
              have hx := (hA k hkl).below (HUB.out.trans (hd.out.mono HUB.out.size))
              have hy := (hB k hkm).below (HUB.out.trans (hd.out.mono HUB.out.size))
              obtain ⟨x, hxe⟩ : ∃ x, p.funcs[k] = x := ⟨_, rfl⟩
              obtain ⟨y, hye⟩ : ∃ y, q.funcs[k] = y := ⟨_, rfl⟩
              rw [hxe] at hx
              rw [hye] at hy
              have HX := Lib.hid hxe
              have HY := Lib.hid hye
              have kk0 : (0 : Int) ≤ (k : Int) := by omega
              have kk1 : (k : Int) < (p.funcs.length : Int) := by omega
              have kk2 : (k : Int) < (q.funcs.length : Int) := by omega
              have u0 := hx.c0
              have u1 := hx.c1
              have u2 := hx.c2
              have v0 := hy.c0
              have v1 := hy.c1
              have v2 := hy.c2
              obtain ⟨AX, cX, u3, hvx⟩ := hx.ok
              obtain ⟨AY, cY, v3, hvy⟩ := hy.ok
              have HC : Hid (∀ V, Below wr.heap.size wr V → Calls Tryd.prog 28 #[fv x AX cX, fv y AY cY] V fun e w' => e = .returned (.bool (decide (x = y))) ∧ Below V.heap.size V w') := Lib.hid fun V hV =>
                reqFn_any x y AX AY cX cY V (hvx.below hV) (hvy.below hV)
              clear hvx hvy
              clear hx hy hxe hye hA hB
              by_cases hxy : x = y
              · have hd1 : decide (x = y) = true := decide_eq_true hxy
                rw [hd1] at HC
                have HE : Hid (p.funcs.take (k + 1) = q.funcs.take (k + 1)) := Lib.hid (take_eq hkl hkm he.out (by rw [HX.out, HY.out]; exact hxy))
                clear hxy hd1
                go_wp2_with fail
                go_region_held3 (fun w' => w'.cell? ⟨w.heap.size, 0, none⟩ = some ((.slice (some ⟨gx, ox, none⟩) p.funcs.length ca)) ∧ w'.cell? ⟨w.heap.size + 1, 0, none⟩ = some ((.slice (some ⟨gy, oy, none⟩) q.funcs.length ca')) ∧ w'.cell? ⟨gx, ox + k * 4, none⟩ = some (.string x.name) ∧ w'.cell? ⟨gx, ox + k * 4 + 1, none⟩ = some (.int .i64 x.params) ∧ w'.cell? ⟨gx, ox + k * 4 + 2, none⟩ = some (.int .i64 x.regs) ∧ w'.cell? ⟨gx, ox + k * 4 + 3, none⟩ = some (.slice AX x.code.length cX) ∧ w'.cell? ⟨gy, oy + k * 4, none⟩ = some (.string y.name) ∧ w'.cell? ⟨gy, oy + k * 4 + 1, none⟩ = some (.int .i64 y.params) ∧ w'.cell? ⟨gy, oy + k * 4 + 2, none⟩ = some (.int .i64 y.regs) ∧ w'.cell? ⟨gy, oy + k * 4 + 3, none⟩ = some (.slice AY y.code.length cY) ∧ Below U.heap.size U w')
                  (first
                    | exact ⟨x0, y0, u0, u1, u2, u3, v0, v1, v2, v3, Below.drew hd.out⟩
                    | assumption
                    | (refine keep10 ?_ hw3; assumption))
                  (first
                    | (go_at_call 28; (with_reducible refine (HC.out _ (Below.drew (Below.refl _ _))).mono ?_); rintro e w3 ⟨rfl, hw3⟩))
                have HZ : Hid (Below U.heap.size U w3) := Lib.hid (by go_split_ands; assumption)
                go_wp2
                go_roundw
                case rel => exact ⟨k + 1, by omega, by go_num, HE, HZ⟩
                case measure => simp [intOf]; omega
              · have hd1 : decide (x = y) = false := decide_eq_false hxy
                rw [hd1] at HC
                have HE : Hid (decide (p = q) = false) := Lib.hid (decide_eq_false (fun e => ne_at hkl hkm (by rw [HX.out, HY.out]; exact hxy) (by rw [e])))
                clear hxy hd1
                go_wp2_with fail
                go_region_held3 (fun w' => w'.cell? ⟨w.heap.size, 0, none⟩ = some ((.slice (some ⟨gx, ox, none⟩) p.funcs.length ca)) ∧ w'.cell? ⟨w.heap.size + 1, 0, none⟩ = some ((.slice (some ⟨gy, oy, none⟩) q.funcs.length ca')) ∧ w'.cell? ⟨gx, ox + k * 4, none⟩ = some (.string x.name) ∧ w'.cell? ⟨gx, ox + k * 4 + 1, none⟩ = some (.int .i64 x.params) ∧ w'.cell? ⟨gx, ox + k * 4 + 2, none⟩ = some (.int .i64 x.regs) ∧ w'.cell? ⟨gx, ox + k * 4 + 3, none⟩ = some (.slice AX x.code.length cX) ∧ w'.cell? ⟨gy, oy + k * 4, none⟩ = some (.string y.name) ∧ w'.cell? ⟨gy, oy + k * 4 + 1, none⟩ = some (.int .i64 y.params) ∧ w'.cell? ⟨gy, oy + k * 4 + 2, none⟩ = some (.int .i64 y.regs) ∧ w'.cell? ⟨gy, oy + k * 4 + 3, none⟩ = some (.slice AY y.code.length cY) ∧ Below U.heap.size U w')
                  (first
                    | exact ⟨x0, y0, u0, u1, u2, u3, v0, v1, v2, v3, Below.drew hd.out⟩
                    | assumption
                    | (refine keep10 ?_ hw3; assumption))
                  (first
                    | (go_at_call 28; (with_reducible refine (HC.out _ (Below.drew (Below.refl _ _))).mono ?_); rintro e w3 ⟨rfl, hw3⟩))
                have HZ : Hid (Below U.heap.size U w3) := Lib.hid (by go_split_ands; assumption)
                go_wp2
                go_ret
                exact ⟨retb HE.out.symm, HUB.out.trans (HZ.out.mono HUB.out.size)⟩
            · obtain rfl : k = p.funcs.length := by omega
              have HFf : Hid (p.funcs = q.funcs) := Lib.hid (take_all Nf.out he.out)
              go_wp2
              go_loopw [6] (fun i wr => ∃ k : Nat, k ≤ p.globals.length ∧ i = .int .i64 k ∧ Hid (p.globals.take k = q.globals.take k) ∧ Hid (Below U.heap.size U wr)) (fun i _ => p.globals.length - (intOf i).toNat)
              case atStart => exact ⟨0, Nat.zero_le _, rfl, Lib.hid rfl, Lib.hid hd.out⟩
              case round =>
                obtain ⟨k, hk, rfl, he, hd⟩ := hrel
                obtain ⟨⟨x0, x1, x2, x3⟩, -⟩ := cells4 ((hd.out.block w.heap.size (by rw [HUS.out]; omega)).trans HT.out.1)
                obtain ⟨⟨y0, y1, y2, y3⟩, -⟩ := cells4 ((hd.out.block (w.heap.size + 1) (by rw [HUS.out]; omega)).trans HT.out.2)
                by_cases hkl : k < p.globals.length
                · have hkm : k < q.globals.length := by have := Ng.out; omega
                  obtain ⟨gx, ox, rfl, hA⟩ := HP.out.gs.at (by omega)
                  obtain ⟨gy, oy, rfl, hB⟩ := HQ.out.gs.at (by omega)
                  have hx := (hA k hkl).below (HUB.out.trans (hd.out.mono HUB.out.size))
                  have hy := (hB k hkm).below (HUB.out.trans (hd.out.mono HUB.out.size))
                  obtain ⟨x, hxe⟩ : ∃ x, p.globals[k] = x := ⟨_, rfl⟩
                  obtain ⟨y, hye⟩ : ∃ y, q.globals[k] = y := ⟨_, rfl⟩
                  rw [hxe] at hx
                  rw [hye] at hy
                  have HX := Lib.hid hxe
                  have HY := Lib.hid hye
                  have kk0 : (0 : Int) ≤ (k : Int) := by omega
                  have kk1 : (k : Int) < (p.globals.length : Int) := by omega
                  have kk2 : (k : Int) < (q.globals.length : Int) := by omega
                  have a0 := hx.c0
                  have a1 := hx.c1
                  have b0 := hy.c0
                  have b1 := hy.c1
                  clear hx hy hxe hye hA hB
                  by_cases h5 : x.name = y.name
                  · have e5 : (x.name.toList == y.name.toList) = true := by simp [h5]
                    have g5 : (x.name.toList != y.name.toList) = false := by simp [h5]
                    by_cases h6 : x.kind = y.kind
                    · have e6 : ((x.kind : Int) == y.kind) = true := by simp [h6]
                      have g6 : ((x.kind : Int) != y.kind) = false := by simp [h6]
                      have HE : Hid (p.globals.take (k + 1) = q.globals.take (k + 1)) := Lib.hid (take_eq hkl hkm he.out (by rw [HX.out, HY.out]; cases x; cases y; simp_all))
                      clear h5 h6
                      go_wp2_with fail
                      go_quiet (fail)
                      go_wp2
                      go_roundw
                      case rel => exact ⟨k + 1, by omega, by go_num, HE, Lib.hid (bel_drewN hd.out _)⟩
                      case measure => simp [intOf]; omega
                    · have e6 : ((x.kind : Int) == y.kind) = false := by simp [h6]
                      have g6 : ((x.kind : Int) != y.kind) = true := by simp [h6]
                      have HE : Hid (decide (p = q) = false) := Lib.hid (decide_eq_false (fun e => ne_at hkl hkm (by rw [HX.out, HY.out]; intro e; exact h6 (by rw [e])) (by rw [e])))
                      clear h5 h6
                      go_wp2_with fail
                      go_quiet (fail)
                      go_wp2
                      go_ret
                      exact ⟨retb HE.out.symm, HUB.out.trans ((bel_drewN hd.out _).mono HUB.out.size)⟩
                  · have k5 : ¬ x.name.toList = y.name.toList := fun e => h5 (toList_inj e)
                    have e5 : (x.name.toList == y.name.toList) = false := by simpa using k5
                    have g5 : (x.name.toList != y.name.toList) = true := by simpa using k5
                    clear k5
                    have HE : Hid (decide (p = q) = false) := Lib.hid (decide_eq_false (fun e => ne_at hkl hkm (by rw [HX.out, HY.out]; intro e; exact h5 (by rw [e])) (by rw [e])))
                    clear h5
                    go_wp2_with fail
                    go_quiet (fail)
                    go_wp2
                    go_ret
                    exact ⟨retb HE.out.symm, HUB.out.trans ((bel_drewN hd.out _).mono HUB.out.size)⟩
                · obtain rfl : k = p.globals.length := by omega
                  have HFg : Hid (p.globals = q.globals) := Lib.hid (take_all Ng.out he.out)
                  go_wp2
                  go_loopw [7] (fun i wr => ∃ k : Nat, k ≤ p.layouts.length ∧ i = .int .i64 k ∧ Hid (p.layouts.take k = q.layouts.take k) ∧ Hid (Below U.heap.size U wr)) (fun i _ => p.layouts.length - (intOf i).toNat)
                  case atStart => exact ⟨0, Nat.zero_le _, rfl, Lib.hid rfl, Lib.hid hd.out⟩
                  case round =>
                    obtain ⟨k, hk, rfl, he, hd⟩ := hrel
                    obtain ⟨⟨x0, x1, x2, x3⟩, -⟩ := cells4 ((hd.out.block w.heap.size (by rw [HUS.out]; omega)).trans HT.out.1)
                    obtain ⟨⟨y0, y1, y2, y3⟩, -⟩ := cells4 ((hd.out.block (w.heap.size + 1) (by rw [HUS.out]; omega)).trans HT.out.2)
                    by_cases hkl : k < p.layouts.length
                    · have hkm : k < q.layouts.length := by have := Nl.out; omega
                      obtain ⟨gx, ox, rfl, hA⟩ := HP.out.ls.at (by omega)
                      obtain ⟨gy, oy, rfl, hB⟩ := HQ.out.ls.at (by omega)
                      have hx := (hA k hkl).below (HUB.out.trans (hd.out.mono HUB.out.size))
                      have hy := (hB k hkm).below (HUB.out.trans (hd.out.mono HUB.out.size))
                      obtain ⟨x, hxe⟩ : ∃ x, p.layouts[k] = x := ⟨_, rfl⟩
                      obtain ⟨y, hye⟩ : ∃ y, q.layouts[k] = y := ⟨_, rfl⟩
                      rw [hxe, Nat.mul_one] at hx
                      rw [hye, Nat.mul_one] at hy
                      have HX := Lib.hid hxe
                      have HY := Lib.hid hye
                      have kk0 : (0 : Int) ≤ (k : Int) := by omega
                      have kk1 : (k : Int) < (p.layouts.length : Int) := by omega
                      have kk2 : (k : Int) < (q.layouts.length : Int) := by omega
                      obtain ⟨AX, cX, u0, _, mX, rX⟩ := hx.row
                      obtain ⟨AY, cY, v0, _, mY, rY⟩ := hy.row
                      have HC : Hid (∀ V, Below wr.heap.size wr V → Calls Tryd.prog 12 #[.slice AX x.length cX, .slice AY y.length cY] V fun e w' => e = .returned (.bool (decide (x = y))) ∧ Below V.heap.size V w') := Lib.hid fun V hV =>
                        ints_any AX AY cX cY x y V mX mY (rX.imp fun x g o q => q.below hV) (rY.imp fun x g o q => q.below hV)
                      clear mX mY rX rY
                      clear hx hy hxe hye hA hB
                      by_cases hxy : x = y
                      · have hd1 : decide (x = y) = true := decide_eq_true hxy
                        rw [hd1] at HC
                        have HE : Hid (p.layouts.take (k + 1) = q.layouts.take (k + 1)) := Lib.hid (take_eq hkl hkm he.out (by rw [HX.out, HY.out]; exact hxy))
                        clear hxy hd1
                        go_wp2_with fail
                        go_region_held3 (fun w' => w'.cell? ⟨w.heap.size, 2, none⟩ = some ((.slice (some ⟨gx, ox, none⟩) p.layouts.length cd)) ∧ w'.cell? ⟨w.heap.size + 1, 2, none⟩ = some ((.slice (some ⟨gy, oy, none⟩) q.layouts.length cd')) ∧ w'.cell? ⟨gx, ox + k, none⟩ = some (.slice AX x.length cX) ∧ w'.cell? ⟨gy, oy + k, none⟩ = some (.slice AY y.length cY) ∧ Below U.heap.size U w')
                          (first
                            | exact ⟨x2, y2, u0, v0, Below.drew hd.out⟩
                            | assumption
                            | (refine keep4 ?_ hw3; assumption))
                          (first
                            | (go_at_call 12; (with_reducible refine (HC.out _ (Below.drew (Below.refl _ _))).mono ?_); rintro e w3 ⟨rfl, hw3⟩))
                        have HZ : Hid (Below U.heap.size U w3) := Lib.hid (by go_split_ands; assumption)
                        go_wp2
                        go_roundw
                        case rel => exact ⟨k + 1, by omega, by go_num, HE, HZ⟩
                        case measure => simp [intOf]; omega
                      · have hd1 : decide (x = y) = false := decide_eq_false hxy
                        rw [hd1] at HC
                        have HE : Hid (decide (p = q) = false) := Lib.hid (decide_eq_false (fun e => ne_at hkl hkm (by rw [HX.out, HY.out]; exact hxy) (by rw [e])))
                        clear hxy hd1
                        go_wp2_with fail
                        go_region_held3 (fun w' => w'.cell? ⟨w.heap.size, 2, none⟩ = some ((.slice (some ⟨gx, ox, none⟩) p.layouts.length cd)) ∧ w'.cell? ⟨w.heap.size + 1, 2, none⟩ = some ((.slice (some ⟨gy, oy, none⟩) q.layouts.length cd')) ∧ w'.cell? ⟨gx, ox + k, none⟩ = some (.slice AX x.length cX) ∧ w'.cell? ⟨gy, oy + k, none⟩ = some (.slice AY y.length cY) ∧ Below U.heap.size U w')
                          (first
                            | exact ⟨x2, y2, u0, v0, Below.drew hd.out⟩
                            | assumption
                            | (refine keep4 ?_ hw3; assumption))
                          (first
                            | (go_at_call 12; (with_reducible refine (HC.out _ (Below.drew (Below.refl _ _))).mono ?_); rintro e w3 ⟨rfl, hw3⟩))
                        have HZ : Hid (Below U.heap.size U w3) := Lib.hid (by go_split_ands; assumption)
                        go_wp2
                        go_ret
                        exact ⟨retb HE.out.symm, HUB.out.trans (HZ.out.mono HUB.out.size)⟩
                    · obtain rfl : k = p.layouts.length := by omega
                      have HFl : Hid (p.layouts = q.layouts) := Lib.hid (take_all Nl.out he.out)
                      have HE : Hid (decide (p = q) = true) := Lib.hid (decide_eq_true (HE0.out HFf.out HFg.out HFl.out))
                      go_wp2
                      go_ret
                      exact ⟨retb HE.out.symm, HUB.out.trans (hd.out.mono HUB.out.size)⟩
        · have e3 : ((p.layouts.length : Int) != (q.layouts.length : Int)) = true := by simp; omega
          have HE : Hid (decide (p = q) = false) := Lib.hid (decide_eq_false (fun e => h3 (by rw [e])))
          clear h0 h1 h2 h3
          go_enter Tryd.func10, Tryd.ntmps10
          go_wp2
          go_ret
          exact ⟨retb HE.out.symm, below2 _ _ _⟩
      · have e2 : ((p.globals.length : Int) != (q.globals.length : Int)) = true := by simp; omega
        have HE : Hid (decide (p = q) = false) := Lib.hid (decide_eq_false (fun e => h2 (by rw [e])))
        clear h0 h1 h2
        go_enter Tryd.func10, Tryd.ntmps10
        go_wp2
        go_ret
        exact ⟨retb HE.out.symm, below2 _ _ _⟩
    · have e1 : ((p.funcs.length : Int) != (q.funcs.length : Int)) = true := by simp; omega
      have HE : Hid (decide (p = q) = false) := Lib.hid (decide_eq_false (fun e => h1 (by rw [e])))
      clear h0 h1
      go_enter Tryd.func10, Tryd.ntmps10
      go_wp2
      go_ret
      exact ⟨retb HE.out.symm, below2 _ _ _⟩
  · have e0 : ((p.main : Int) == q.main) = false := by simp [h0]
    have g0 : ((p.main : Int) != q.main) = true := by simp [h0]
    have HE : Hid (decide (p = q) = false) := Lib.hid (decide_eq_false (fun e => h0 (by rw [e])))
    clear h0
    go_enter Tryd.func10, Tryd.ntmps10
    go_wp2
    go_ret
    exact ⟨retb HE.out.symm, below2 _ _ _⟩
end Go.Proofs.YtekfhgldebhigaaDoor
