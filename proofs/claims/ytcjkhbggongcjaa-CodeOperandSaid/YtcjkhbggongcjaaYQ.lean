/-
  The law CodeOperand.
-/
import Derived.Test.YtcjkhbggongcjaaEH
import Derived.Test.YtcjkhbggongcjaaRI
import Derived.Test.YtcjkhbggongcjaaYP
import Derived.Test.YtcjkhbggongcjaaYO
import Derived.Deep.RegionHeld3
set_option linter.all false
namespace Go.Proofs.Ytcjkhbggongcjaa
open Go.RowKit C
theorem cells7 {w : World} {b : Nat} {a0 a1 a2 a3 a4 a5 a6 : Value} {t : TypeId} (h : w.heap[b]? = some (.cells #[a0, a1, a2, a3, a4, a5, a6] t (0, 0))) : w.cell? ⟨b, 0, none⟩ = some a0 ∧ w.cell? ⟨b, 1, none⟩ = some a1 ∧ w.cell? ⟨b, 2, none⟩ = some a2 ∧ w.cell? ⟨b, 3, none⟩ = some a3 ∧ w.cell? ⟨b, 4, none⟩ = some a4 ∧ w.cell? ⟨b, 5, none⟩ = some a5 ∧ w.cell? ⟨b, 6, none⟩ = some a6 := by
  simp [World.cell?, h]
theorem rem_nat {x : Int} {n i : Nat} (hx : 0 ≤ x) (hi : i = x.toNat % n) : Int.tmod x (n : Int) = (i : Int) := by
  obtain ⟨m, rfl⟩ := Int.eq_ofNat_of_zero_le hx
  subst hi
  rfl
set_option maxRecDepth 100000 in
set_option maxHeartbeats 8000000 in
theorem law_CodeOperand (p : Pg) (A B D : Option Addr) (ca cb cd : Nat) (x y z : Int) (w : World) (hp : PgAt w p A B D ca cb cd) (hx : u16 x) (hy : u16 y) (hz : u16 z) (hsz : validB p = true → Sz p ∧ 0 < p.funcs.length ∧ p.funcs.length ≤ 64 ∧ ∀ f ∈ p.funcs, 0 < f.code.length) :
    Calls Try.prog 7 #[cv p A B D ca cb cd x y z] w fun e w' => e = .returned (.bool true) ∧ Below w.heap.size w w' := by
  have HP := Lib.hid hp
  have HR : Hid (∀ V, Below w.heap.size w V → Calls Try.prog 12 #[pv p A B D ca cb cd] V fun e w' => e = .returned (.bool (validB p)) ∧ Below V.heap.size V w') := Lib.hid fun V hV => rvalid_any p A B D ca cb cd V (hp.below hV)
  have HY : Hid (∀ V, Below w.heap.size w V → Sz p → Calls Try.prog 15 #[pv p A B D ca cb cd] V (CpMut p V)) := Lib.hid fun V hV hz => copy_mut p A B D ca cb cd V (hp.below hV) hz
  have HW : Hid (∀ V, Calls Try.prog 10 #[] V fun e w' => e = .returned (.bool true) ∧ Below V.heap.size V w') := Lib.hid awake_any
  have HSZ := Lib.hid hsz
  have HC := Lib.hid (heap_alloc_new w (.cells #[.slice A p.funcs.length ca, .slice B p.globals.length cb, .slice D p.layouts.length cd, .int .i64 p.main, .int .u16 x, .int .u16 y, .int .u16 z] 42))
  have HB := Lib.hid (below1 w (.cells #[.slice A p.funcs.length ca, .slice B p.globals.length cb, .slice D p.layouts.length cd, .int .i64 p.main, .int .u16 x, .int .u16 y, .int .u16 z] 42))
  clear hp hsz
  cases hb : validB p with
  | false =>
    simp only [hb] at HR
    clear hb
    go_enter Try.func7, Try.ntmps7
    go_wp2_with fail
    refine (HW.out _).mono ?_
    rintro e w1 ⟨rfl, hw1⟩
    have HB1 := Lib.hid (HB.out.trans (hw1.mono HB.out.size))
    obtain ⟨c0, c1, c2, c3, c4, c5, c6⟩ := cells7 ((hw1.block w.heap.size (by simp)).trans HC.out)
    go_wp2_with fail
    refine (HR.out _ HB1.out).mono ?_
    rintro e w2 ⟨rfl, hw2⟩
    have HB2 := Lib.hid (HB1.out.trans (hw2.mono HB1.out.size))
    go_wp2_with fail
    refine (HW.out _).mono ?_
    rintro e w3 ⟨rfl, hw3⟩
    go_wp2
    go_ret
    exact ⟨rfl, HB2.out.trans (hw3.mono HB2.out.size)⟩
  | true =>
    simp only [hb] at HR
    obtain ⟨hsp, hfl, hf64, hcl⟩ := HSZ.out hb
    have HCL := Lib.hid hcl
    have HHB := Lib.hid hb
    clear hcl
    clear hb
    go_enter Try.func7, Try.ntmps7
    go_wp2_with fail
    refine (HW.out _).mono ?_
    rintro e w1 ⟨rfl, hw1⟩
    have HB1 := Lib.hid (HB.out.trans (hw1.mono HB.out.size))
    have HC1 := Lib.hid ((hw1.block w.heap.size (by simp)).trans HC.out)
    obtain ⟨c0, c1, c2, c3, c4, c5, c6⟩ := cells7 HC1.out
    go_wp2_with fail
    refine (HR.out _ HB1.out).mono ?_
    rintro e w2 ⟨rfl, hw2⟩
    have HB2 := Lib.hid (HB1.out.trans (hw2.mono HB1.out.size))
    have HC2 := Lib.hid ((hw2.block w.heap.size (by have := HB1.out.size; have := (Array.getElem?_eq_some_iff.1 HC1.out).1; omega)).trans HC1.out)
    clear c0 c1 c2 c3 c4 c5 c6
    obtain ⟨c0, c1, c2, c3, c4, c5, c6⟩ := cells7 HC2.out
    go_wp2_with fail
    refine (HY.out _ HB2.out hsp).mono ?_
    rintro e w3 ⟨A1, B1, D1, ca1, cb1, cd1, rfl, hq, hw3, hmut⟩
    have HB3 := Lib.hid (HB2.out.trans (hw3.mono HB2.out.size))
    have HC3 := Lib.hid ((hw3.block w.heap.size (Array.getElem?_eq_some_iff.1 HC2.out).1).trans HC2.out)
    clear c0 c1 c2 c3 c4 c5 c6
    have HQ := Lib.hid hq
    have HM := Lib.hid hmut
    clear hq hmut
    obtain ⟨c0, c1, c2, c3, c4, c5', c6⟩ := cells7 HC3.out
    have hs3 := (Array.getElem?_eq_some_iff.1 HC3.out).1
    obtain ⟨i, hi⟩ : ∃ i, i = x.toNat % p.funcs.length := ⟨_, rfl⟩
    have hil : i < p.funcs.length := by rw [hi]; exact Nat.mod_lt _ hfl
    obtain ⟨f, hf⟩ : ∃ f, p.funcs[i] = f := ⟨_, rfl⟩
    have hfl2 : 0 < f.code.length := HCL.out f (hf ▸ List.getElem_mem _)
    obtain ⟨k, hk⟩ : ∃ k, k = y.toNat % f.code.length := ⟨_, rfl⟩
    have hkl : k < f.code.length := by rw [hk]; exact Nat.mod_lt _ hfl2
    have hri : Int.tmod x (p.funcs.length : Int) = (i : Int) := rem_nat hx.1 hi
    have hrk : Int.tmod y (f.code.length : Int) = (k : Int) := rem_nat hy.1 hk
    obtain ⟨g, g5, c5, rfl, hc3, hg5, hg5l, hM⟩ := HM.out i k hil (by rw [hf]; exact hkl)
    obtain ⟨gq, oq, eq, hF⟩ := HQ.out.fs.at (by omega)
    have eq2 := Option.some.inj eq
    have eq3 : g = gq ∧ 0 = oq := by injection eq2 with a b c; exact ⟨a, b⟩
    obtain ⟨rfl, rfl⟩ := eq3
    have hFi := hF i hil
    rw [Nat.zero_add, hf] at hFi
    rw [hf] at hc3
    have HQB := Lib.hid (heap_alloc_new w3 (.cells #[.slice (some ⟨g, 0, none⟩) p.funcs.length ca1, .slice B1 p.globals.length cb1, .slice D1 p.layouts.length cd1, .int .i64 p.main] 26))
    have hBq := below1 w3 (.cells #[.slice (some ⟨g, 0, none⟩) p.funcs.length ca1, .slice B1 p.globals.length cb1, .slice D1 p.layouts.length cd1, .int .i64 p.main] 26)
    have f0 := cell_bel hFi.c0 hBq
    have f1 := cell_bel hFi.c1 hBq
    have f2 := cell_bel hFi.c2 hBq
    have f3 := cell_bel hc3 hBq
    have x4 := cell_bel c4 hBq
    obtain ⟨⟨q0, q1, q2, q3⟩, -⟩ := cells4 HQB.out
    have HS0 : Hid ((w3.alloc (.cells #[.slice (some ⟨g, 0, none⟩) p.funcs.length ca1, .slice B1 p.globals.length cb1, .slice D1 p.layouts.length cd1, .int .i64 p.main] 26)).drew.cell? ⟨w.heap.size, 4, none⟩ = some (.int .u16 x) ∧ (w3.alloc (.cells #[.slice (some ⟨g, 0, none⟩) p.funcs.length ca1, .slice B1 p.globals.length cb1, .slice D1 p.layouts.length cd1, .int .i64 p.main] 26)).drew.cell? ⟨w3.heap.size, 0, none⟩ = some (.slice (some ⟨g, 0, none⟩) p.funcs.length ca1) ∧ (w3.alloc (.cells #[.slice (some ⟨g, 0, none⟩) p.funcs.length ca1, .slice B1 p.globals.length cb1, .slice D1 p.layouts.length cd1, .int .i64 p.main] 26)).drew.cell? ⟨g, i * 4, none⟩ = some (.string f.name) ∧ (w3.alloc (.cells #[.slice (some ⟨g, 0, none⟩) p.funcs.length ca1, .slice B1 p.globals.length cb1, .slice D1 p.layouts.length cd1, .int .i64 p.main] 26)).drew.cell? ⟨g, i * 4 + 1, none⟩ = some (.int .i64 f.params) ∧ (w3.alloc (.cells #[.slice (some ⟨g, 0, none⟩) p.funcs.length ca1, .slice B1 p.globals.length cb1, .slice D1 p.layouts.length cd1, .int .i64 p.main] 26)).drew.cell? ⟨g, i * 4 + 2, none⟩ = some (.int .i64 f.regs) ∧ (w3.alloc (.cells #[.slice (some ⟨g, 0, none⟩) p.funcs.length ca1, .slice B1 p.globals.length cb1, .slice D1 p.layouts.length cd1, .int .i64 p.main] 26)).drew.cell? ⟨g, i * 4 + 3, none⟩ = some (.slice (some ⟨g5, 0, none⟩) f.code.length c5)) := Lib.hid ⟨x4, q0, f0, f1, f2, f3⟩
    have hBf := Below.drew (below1 (w3.alloc (.cells #[.slice (some ⟨g, 0, none⟩) p.funcs.length ca1, .slice B1 p.globals.length cb1, .slice D1 p.layouts.length cd1, .int .i64 p.main] 26)) (.cells #[.string ⟨#[]⟩, .int .i64 0, .int .i64 0, .slice none 0 0] 38))
    have HSa : Hid (((w3.alloc (.cells #[.slice (some ⟨g, 0, none⟩) p.funcs.length ca1, .slice B1 p.globals.length cb1, .slice D1 p.layouts.length cd1, .int .i64 p.main] 26)).alloc (.cells #[.string ⟨#[]⟩, .int .i64 0, .int .i64 0, .slice none 0 0] 38)).drew.cell? ⟨w.heap.size, 4, none⟩ = some (.int .u16 x) ∧ ((w3.alloc (.cells #[.slice (some ⟨g, 0, none⟩) p.funcs.length ca1, .slice B1 p.globals.length cb1, .slice D1 p.layouts.length cd1, .int .i64 p.main] 26)).alloc (.cells #[.string ⟨#[]⟩, .int .i64 0, .int .i64 0, .slice none 0 0] 38)).drew.cell? ⟨w3.heap.size, 0, none⟩ = some (.slice (some ⟨g, 0, none⟩) p.funcs.length ca1) ∧ ((w3.alloc (.cells #[.slice (some ⟨g, 0, none⟩) p.funcs.length ca1, .slice B1 p.globals.length cb1, .slice D1 p.layouts.length cd1, .int .i64 p.main] 26)).alloc (.cells #[.string ⟨#[]⟩, .int .i64 0, .int .i64 0, .slice none 0 0] 38)).drew.cell? ⟨g, i * 4, none⟩ = some (.string f.name) ∧ ((w3.alloc (.cells #[.slice (some ⟨g, 0, none⟩) p.funcs.length ca1, .slice B1 p.globals.length cb1, .slice D1 p.layouts.length cd1, .int .i64 p.main] 26)).alloc (.cells #[.string ⟨#[]⟩, .int .i64 0, .int .i64 0, .slice none 0 0] 38)).drew.cell? ⟨g, i * 4 + 1, none⟩ = some (.int .i64 f.params) ∧ ((w3.alloc (.cells #[.slice (some ⟨g, 0, none⟩) p.funcs.length ca1, .slice B1 p.globals.length cb1, .slice D1 p.layouts.length cd1, .int .i64 p.main] 26)).alloc (.cells #[.string ⟨#[]⟩, .int .i64 0, .int .i64 0, .slice none 0 0] 38)).drew.cell? ⟨g, i * 4 + 2, none⟩ = some (.int .i64 f.regs) ∧ ((w3.alloc (.cells #[.slice (some ⟨g, 0, none⟩) p.funcs.length ca1, .slice B1 p.globals.length cb1, .slice D1 p.layouts.length cd1, .int .i64 p.main] 26)).alloc (.cells #[.string ⟨#[]⟩, .int .i64 0, .int .i64 0, .slice none 0 0] 38)).drew.cell? ⟨g, i * 4 + 3, none⟩ = some (.slice (some ⟨g5, 0, none⟩) f.code.length c5)) := Lib.hid ⟨cell_bel x4 hBf, cell_bel q0 hBf, cell_bel f0 hBf, cell_bel f1 hBf, cell_bel f2 hBf, cell_bel f3 hBf⟩
    have hBg := Below.drew (below1 (w3.alloc (.cells #[.slice (some ⟨g, 0, none⟩) p.funcs.length ca1, .slice B1 p.globals.length cb1, .slice D1 p.layouts.length cd1, .int .i64 p.main] 26)) (.cells #[.string f.name, .int .i64 f.params, .int .i64 f.regs, .slice (some ⟨g5, 0, none⟩) f.code.length c5] 38))
    have HSb : Hid (((w3.alloc (.cells #[.slice (some ⟨g, 0, none⟩) p.funcs.length ca1, .slice B1 p.globals.length cb1, .slice D1 p.layouts.length cd1, .int .i64 p.main] 26)).alloc (.cells #[.string f.name, .int .i64 f.params, .int .i64 f.regs, .slice (some ⟨g5, 0, none⟩) f.code.length c5] 38)).drew.cell? ⟨w.heap.size, 4, none⟩ = some (.int .u16 x) ∧ ((w3.alloc (.cells #[.slice (some ⟨g, 0, none⟩) p.funcs.length ca1, .slice B1 p.globals.length cb1, .slice D1 p.layouts.length cd1, .int .i64 p.main] 26)).alloc (.cells #[.string f.name, .int .i64 f.params, .int .i64 f.regs, .slice (some ⟨g5, 0, none⟩) f.code.length c5] 38)).drew.cell? ⟨w3.heap.size, 0, none⟩ = some (.slice (some ⟨g, 0, none⟩) p.funcs.length ca1) ∧ ((w3.alloc (.cells #[.slice (some ⟨g, 0, none⟩) p.funcs.length ca1, .slice B1 p.globals.length cb1, .slice D1 p.layouts.length cd1, .int .i64 p.main] 26)).alloc (.cells #[.string f.name, .int .i64 f.params, .int .i64 f.regs, .slice (some ⟨g5, 0, none⟩) f.code.length c5] 38)).drew.cell? ⟨g, i * 4, none⟩ = some (.string f.name) ∧ ((w3.alloc (.cells #[.slice (some ⟨g, 0, none⟩) p.funcs.length ca1, .slice B1 p.globals.length cb1, .slice D1 p.layouts.length cd1, .int .i64 p.main] 26)).alloc (.cells #[.string f.name, .int .i64 f.params, .int .i64 f.regs, .slice (some ⟨g5, 0, none⟩) f.code.length c5] 38)).drew.cell? ⟨g, i * 4 + 1, none⟩ = some (.int .i64 f.params) ∧ ((w3.alloc (.cells #[.slice (some ⟨g, 0, none⟩) p.funcs.length ca1, .slice B1 p.globals.length cb1, .slice D1 p.layouts.length cd1, .int .i64 p.main] 26)).alloc (.cells #[.string f.name, .int .i64 f.params, .int .i64 f.regs, .slice (some ⟨g5, 0, none⟩) f.code.length c5] 38)).drew.cell? ⟨g, i * 4 + 2, none⟩ = some (.int .i64 f.regs) ∧ ((w3.alloc (.cells #[.slice (some ⟨g, 0, none⟩) p.funcs.length ca1, .slice B1 p.globals.length cb1, .slice D1 p.layouts.length cd1, .int .i64 p.main] 26)).alloc (.cells #[.string f.name, .int .i64 f.params, .int .i64 f.regs, .slice (some ⟨g5, 0, none⟩) f.code.length c5] 38)).drew.cell? ⟨g, i * 4 + 3, none⟩ = some (.slice (some ⟨g5, 0, none⟩) f.code.length c5)) := Lib.hid ⟨cell_bel x4 hBg, cell_bel q0 hBg, cell_bel f0 hBg, cell_bel f1 hBg, cell_bel f2 hBg, cell_bel f3 hBg⟩
    have HX := Lib.hid hf
    have HBQ := Lib.hid (HB3.out.trans (hBq.mono HB3.out.size))
    have hnz : ((p.funcs.length : Int) == 0) = false := by rw [beq_eq_false_iff_ne]; omega
    have hnz2 : ((f.code.length : Int) == 0) = false := by rw [beq_eq_false_iff_ne]; omega
    have hq1 : ¬ p.funcs = [] := by intro e; rw [e] at hfl; cases hfl
    have hq2 : ¬ f.code = [] := by intro e; rw [e] at hfl2; cases hfl2
    have hq3 : ¬ (p.funcs.length : Int) = 0 := by omega
    have hq4 : ¬ (f.code.length : Int) = 0 := by omega
    have ii0 : (0 : Int) ≤ (i : Int) := by omega
    have ii1 : (i : Int) < (p.funcs.length : Int) := by omega
    have wx : IntKind.i64.wrap x = x := IntWalk.i64_in _ (by have := hx.1; have := hx.2; omega)
    have wy : IntKind.i64.wrap y = y := IntWalk.i64_in _ (by have := hy.1; have := hy.2; omega)
    have wi : IntKind.i64.wrap (i : Int) = (i : Int) := IntWalk.i64_in _ (by omega)
    have hB3 : Below w3.heap.size w3 ((((w3.alloc (.cells #[.slice (some ⟨g, 0, none⟩) p.funcs.length ca1, .slice B1 p.globals.length cb1, .slice D1 p.layouts.length cd1, .int .i64 p.main] 26)).alloc (.cells #[.string f.name, .int .i64 f.params, .int .i64 f.regs, .slice (some ⟨g5, 0, none⟩) f.code.length c5] 38)).drew).drew) := Below.drew (Below.drew (below2 w3 (.cells #[.slice (some ⟨g, 0, none⟩) p.funcs.length ca1, .slice B1 p.globals.length cb1, .slice D1 p.layouts.length cd1, .int .i64 p.main] 26) (.cells #[.string f.name, .int .i64 f.params, .int .i64 f.regs, .slice (some ⟨g5, 0, none⟩) f.code.length c5] 38)))
    obtain ⟨hcell, hfroz, hset⟩ := hM ((((w3.alloc (.cells #[.slice (some ⟨g, 0, none⟩) p.funcs.length ca1, .slice B1 p.globals.length cb1, .slice D1 p.layouts.length cd1, .int .i64 p.main] 26)).alloc (.cells #[.string f.name, .int .i64 f.params, .int .i64 f.regs, .slice (some ⟨g5, 0, none⟩) f.code.length c5] 38)).drew).drew) hB3
    have HPS := Lib.hid (hset (5000 + z) (by have := hz.1; have := hz.2; unfold i64; omega))
    have HV : Hid (Calls Try.prog 11 #[pv p (some ⟨g, 0, none⟩) B1 D1 ca1 cb1 cd1] (((((w3.alloc (.cells #[.slice (some ⟨g, 0, none⟩) p.funcs.length ca1, .slice B1 p.globals.length cb1, .slice D1 p.layouts.length cd1, .int .i64 p.main] 26)).alloc (.cells #[.string f.name, .int .i64 f.params, .int .i64 f.regs, .slice (some ⟨g5, 0, none⟩) f.code.length c5] 38)).drew).drew).setCell ⟨g5, k * 5 + 1, none⟩ (.int .i64 (5000 + z))) fun e w' => e = .returned (.bool false) ∧ Below (((((w3.alloc (.cells #[.slice (some ⟨g, 0, none⟩) p.funcs.length ca1, .slice B1 p.globals.length cb1, .slice D1 p.layouts.length cd1, .int .i64 p.main] 26)).alloc (.cells #[.string f.name, .int .i64 f.params, .int .i64 f.regs, .slice (some ⟨g5, 0, none⟩) f.code.length c5] 38)).drew).drew).setCell ⟨g5, k * 5 + 1, none⟩ (.int .i64 (5000 + z))).heap.size (((((w3.alloc (.cells #[.slice (some ⟨g, 0, none⟩) p.funcs.length ca1, .slice B1 p.globals.length cb1, .slice D1 p.layouts.length cd1, .int .i64 p.main] 26)).alloc (.cells #[.string f.name, .int .i64 f.params, .int .i64 f.regs, .slice (some ⟨g5, 0, none⟩) f.code.length c5] 38)).drew).drew).setCell ⟨g5, k * 5 + 1, none⟩ (.int .i64 (5000 + z))) w') := Lib.hid (by
      have h1 := valid_any (setA p i k (5000 + z)) (some ⟨g, 0, none⟩) B1 D1 ca1 cb1 cd1 (((((w3.alloc (.cells #[.slice (some ⟨g, 0, none⟩) p.funcs.length ca1, .slice B1 p.globals.length cb1, .slice D1 p.layouts.length cd1, .int .i64 p.main] 26)).alloc (.cells #[.string f.name, .int .i64 f.params, .int .i64 f.regs, .slice (some ⟨g5, 0, none⟩) f.code.length c5] 38)).drew).drew).setCell ⟨g5, k * 5 + 1, none⟩ (.int .i64 (5000 + z))) HPS.out
      rw [set_spoils hil (by rw [hf]; exact hkl) (by have := hz.1; omega)] at h1
      have hpv : pv (setA p i k (5000 + z)) (some ⟨g, 0, none⟩) B1 D1 ca1 cb1 cd1 = pv p (some ⟨g, 0, none⟩) B1 D1 ca1 cb1 cd1 := by simp [setA]
      rw [hpv] at h1
      exact h1)
    have t5 := cell_bel c5' hB3
    have t6 := cell_bel c6 hB3
    obtain ⟨⟨-, -, -, t7⟩, -⟩ := cells4 (show (((((w3.alloc (.cells #[.slice (some ⟨g, 0, none⟩) p.funcs.length ca1, .slice B1 p.globals.length cb1, .slice D1 p.layouts.length cd1, .int .i64 p.main] 26)).alloc (.cells #[.string f.name, .int .i64 f.params, .int .i64 f.regs, .slice (some ⟨g5, 0, none⟩) f.code.length c5] 38)).drew).drew)).heap[w3.heap.size + 1]? = some (.cells #[.string f.name, .int .i64 f.params, .int .i64 f.regs, .slice (some ⟨g5, 0, none⟩) f.code.length c5] 38) from heap2 w3 (.cells #[.slice (some ⟨g, 0, none⟩) p.funcs.length ca1, .slice B1 p.globals.length cb1, .slice D1 p.layouts.length cd1, .int .i64 p.main] 26) (.cells #[.string f.name, .int .i64 f.params, .int .i64 f.regs, .slice (some ⟨g5, 0, none⟩) f.code.length c5] 38))
    obtain ⟨⟨tq0, tq1, tq2, tq3⟩, -⟩ := cells4 (show (((((w3.alloc (.cells #[.slice (some ⟨g, 0, none⟩) p.funcs.length ca1, .slice B1 p.globals.length cb1, .slice D1 p.layouts.length cd1, .int .i64 p.main] 26)).alloc (.cells #[.string f.name, .int .i64 f.params, .int .i64 f.regs, .slice (some ⟨g5, 0, none⟩) f.code.length c5] 38)).drew).drew)).heap[w3.heap.size]? = some (.cells #[.slice (some ⟨g, 0, none⟩) p.funcs.length ca1, .slice B1 p.globals.length cb1, .slice D1 p.layouts.length cd1, .int .i64 p.main] 26) from heap2a w3 (.cells #[.slice (some ⟨g, 0, none⟩) p.funcs.length ca1, .slice B1 p.globals.length cb1, .slice D1 p.layouts.length cd1, .int .i64 p.main] 26) (.cells #[.string f.name, .int .i64 f.params, .int .i64 f.regs, .slice (some ⟨g5, 0, none⟩) f.code.length c5] 38))
    have hs32 := hw3.size
    have hs2 := HB2.out.size
    have hs2c := (Array.getElem?_eq_some_iff.1 HC2.out).1
    have far : ∀ (b o : Nat) (u : Value), b ≠ g5 → (((((w3.alloc (.cells #[.slice (some ⟨g, 0, none⟩) p.funcs.length ca1, .slice B1 p.globals.length cb1, .slice D1 p.layouts.length cd1, .int .i64 p.main] 26)).alloc (.cells #[.string f.name, .int .i64 f.params, .int .i64 f.regs, .slice (some ⟨g5, 0, none⟩) f.code.length c5] 38)).drew).drew)).cell? ⟨b, o, none⟩ = some u → ((((((w3.alloc (.cells #[.slice (some ⟨g, 0, none⟩) p.funcs.length ca1, .slice B1 p.globals.length cb1, .slice D1 p.layouts.length cd1, .int .i64 p.main] 26)).alloc (.cells #[.string f.name, .int .i64 f.params, .int .i64 f.regs, .slice (some ⟨g5, 0, none⟩) f.code.length c5] 38)).drew).drew).setCell ⟨g5, k * 5 + 1, none⟩ (.int .i64 (5000 + z)))).cell? ⟨b, o, none⟩ = some u := fun b o u hne h => by
      rw [← h]; exact World.cell?_setCell_other _ _ _ _ (by intro e; cases e; exact hne rfl)
    have HT0 : Hid (((((w3.alloc (.cells #[.slice (some ⟨g, 0, none⟩) p.funcs.length ca1, .slice B1 p.globals.length cb1, .slice D1 p.layouts.length cd1, .int .i64 p.main] 26)).alloc (.cells #[.string f.name, .int .i64 f.params, .int .i64 f.regs, .slice (some ⟨g5, 0, none⟩) f.code.length c5] 38)).drew).drew).cell? ⟨w.heap.size, 5, none⟩ = some (.int .u16 y) ∧ ((((w3.alloc (.cells #[.slice (some ⟨g, 0, none⟩) p.funcs.length ca1, .slice B1 p.globals.length cb1, .slice D1 p.layouts.length cd1, .int .i64 p.main] 26)).alloc (.cells #[.string f.name, .int .i64 f.params, .int .i64 f.regs, .slice (some ⟨g5, 0, none⟩) f.code.length c5] 38)).drew).drew).cell? ⟨w.heap.size, 6, none⟩ = some (.int .u16 z) ∧ ((((w3.alloc (.cells #[.slice (some ⟨g, 0, none⟩) p.funcs.length ca1, .slice B1 p.globals.length cb1, .slice D1 p.layouts.length cd1, .int .i64 p.main] 26)).alloc (.cells #[.string f.name, .int .i64 f.params, .int .i64 f.regs, .slice (some ⟨g5, 0, none⟩) f.code.length c5] 38)).drew).drew).cell? ⟨w3.heap.size + 1, 3, none⟩ = some (.slice (some ⟨g5, 0, none⟩) f.code.length c5)) := Lib.hid ⟨t5, t6, t7⟩
    have HT1 : Hid ((((((w3.alloc (.cells #[.slice (some ⟨g, 0, none⟩) p.funcs.length ca1, .slice B1 p.globals.length cb1, .slice D1 p.layouts.length cd1, .int .i64 p.main] 26)).alloc (.cells #[.string f.name, .int .i64 f.params, .int .i64 f.regs, .slice (some ⟨g5, 0, none⟩) f.code.length c5] 38)).drew).drew).setCell ⟨g5, k * 5 + 1, none⟩ (.int .i64 (5000 + z))).cell? ⟨w.heap.size, 5, none⟩ = some (.int .u16 y) ∧ (((((w3.alloc (.cells #[.slice (some ⟨g, 0, none⟩) p.funcs.length ca1, .slice B1 p.globals.length cb1, .slice D1 p.layouts.length cd1, .int .i64 p.main] 26)).alloc (.cells #[.string f.name, .int .i64 f.params, .int .i64 f.regs, .slice (some ⟨g5, 0, none⟩) f.code.length c5] 38)).drew).drew).setCell ⟨g5, k * 5 + 1, none⟩ (.int .i64 (5000 + z))).cell? ⟨w.heap.size, 6, none⟩ = some (.int .u16 z) ∧ (((((w3.alloc (.cells #[.slice (some ⟨g, 0, none⟩) p.funcs.length ca1, .slice B1 p.globals.length cb1, .slice D1 p.layouts.length cd1, .int .i64 p.main] 26)).alloc (.cells #[.string f.name, .int .i64 f.params, .int .i64 f.regs, .slice (some ⟨g5, 0, none⟩) f.code.length c5] 38)).drew).drew).setCell ⟨g5, k * 5 + 1, none⟩ (.int .i64 (5000 + z))).cell? ⟨w3.heap.size + 1, 3, none⟩ = some (.slice (some ⟨g5, 0, none⟩) f.code.length c5)) := Lib.hid ⟨far _ _ _ (by omega) t5, far _ _ _ (by omega) t6, far _ _ _ (by omega) t7⟩
    have HTQ := Lib.hid (And.intro (far _ _ _ (by omega) tq0) (And.intro (far _ _ _ (by omega) tq1) (And.intro (far _ _ _ (by omega) tq2) (far _ _ _ (by omega) tq3))))
    have HBF : Hid (Below w.heap.size w (((((w3.alloc (.cells #[.slice (some ⟨g, 0, none⟩) p.funcs.length ca1, .slice B1 p.globals.length cb1, .slice D1 p.layouts.length cd1, .int .i64 p.main] 26)).alloc (.cells #[.string f.name, .int .i64 f.params, .int .i64 f.regs, .slice (some ⟨g5, 0, none⟩) f.code.length c5] 38)).drew).drew).setCell ⟨g5, k * 5 + 1, none⟩ (.int .i64 (5000 + z)))) := Lib.hid ((HB3.out.trans (hB3.mono HB3.out.size)).grown (grown_set _ _ _ _) (by have := hB3.size; have := HB3.out.size; omega) (fun q hq => by cases hq; omega))
    have hEq : (((((w3.alloc (.cells #[.slice (some ⟨g, 0, none⟩) p.funcs.length ca1, .slice B1 p.globals.length cb1, .slice D1 p.layouts.length cd1, .int .i64 p.main] 26)).alloc (.cells #[.string f.name, .int .i64 f.params, .int .i64 f.regs, .slice (some ⟨g5, 0, none⟩) f.code.length c5] 38)).drew).drew).setCell ⟨g5, k * 5 + 1, none⟩ (.int .i64 (5000 + z))) = ((((w3.setCell ⟨g5, k * 5 + 1, none⟩ (.int .i64 (5000 + z))).alloc (.cells #[.slice (some ⟨g, 0, none⟩) p.funcs.length ca1, .slice B1 p.globals.length cb1, .slice D1 p.layouts.length cd1, .int .i64 p.main] 26)).alloc (.cells #[.string f.name, .int .i64 f.params, .int .i64 f.regs, .slice (some ⟨g5, 0, none⟩) f.code.length c5] 38)).drew).drew := by
      have a := World.setCell_alloc_past (w := w3.alloc (.cells #[.slice (some ⟨g, 0, none⟩) p.funcs.length ca1, .slice B1 p.globals.length cb1, .slice D1 p.layouts.length cd1, .int .i64 p.main] 26)) (.cells #[.string f.name, .int .i64 f.params, .int .i64 f.regs, .slice (some ⟨g5, 0, none⟩) f.code.length c5] 38) g5 (k * 5 + 1) (.int .i64 (5000 + z)) (by simp; omega)
      have b := World.setCell_alloc_past (w := w3) (.cells #[.slice (some ⟨g, 0, none⟩) p.funcs.length ca1, .slice B1 p.globals.length cb1, .slice D1 p.layouts.length cd1, .int .i64 p.main] 26) g5 (k * 5 + 1) (.int .i64 (5000 + z)) hg5l
      show ((((w3.alloc (.cells #[.slice (some ⟨g, 0, none⟩) p.funcs.length ca1, .slice B1 p.globals.length cb1, .slice D1 p.layouts.length cd1, .int .i64 p.main] 26)).alloc (.cells #[.string f.name, .int .i64 f.params, .int .i64 f.regs, .slice (some ⟨g5, 0, none⟩) f.code.length c5] 38)).setCell ⟨g5, k * 5 + 1, none⟩ (.int .i64 (5000 + z))).drew).drew = _
      rw [a, b]
    rw [hEq] at HV HT1 HTQ HBF
    clear hEq
    have HCF := Lib.hid (And.intro hcell hfroz)
    have kk0 : (0 : Int) ≤ (k : Int) := by omega
    have kk1 : (k : Int) < (f.code.length : Int) := by omega
    have wk : IntKind.i64.wrap (k : Int) = (k : Int) := IntWalk.i64_in _ (by have := hsp.c f (HX.out ▸ List.getElem_mem _); omega)
    have wz : IntKind.i64.wrap z = z := IntWalk.i64_in _ (by have := hz.1; have := hz.2; omega)
    have wz5 : IntKind.i64.wrap (5000 + z) = 5000 + z := IntWalk.i64_in _ (by have := hz.1; have := hz.2; omega)
    clear far tq0 tq1 tq2 tq3 t5 t6 t7 hcell hfroz hset hM hB3
    clear f0 f1 f2 f3 x4 q0 q1 q2 q3 hBq hBf hBg hF hFi c0 c1 c2 c3 c4 c5' c6 eq eq2 hi hk hc3
    go_wp2_with fail
    go_region_held3 (fun w' => w'.cell? ⟨w.heap.size, 4, none⟩ = some (.int .u16 x) ∧ w'.cell? ⟨w3.heap.size, 0, none⟩ = some (.slice (some ⟨g, 0, none⟩) p.funcs.length ca1) ∧ w'.cell? ⟨g, i * 4, none⟩ = some (.string f.name) ∧ w'.cell? ⟨g, i * 4 + 1, none⟩ = some (.int .i64 f.params) ∧ w'.cell? ⟨g, i * 4 + 2, none⟩ = some (.int .i64 f.regs) ∧ w'.cell? ⟨g, i * 4 + 3, none⟩ = some (.slice (some ⟨g5, 0, none⟩) f.code.length c5))
      (first
        | exact HS0.out
        | assumption
        | exact HSa.out
        | exact HSb.out)
      (fail)
    all_goals
      obtain ⟨hcell, hfroz⟩ := HCF.out
      go_wp2_with fail
      go_region_held3 (fun w' => w'.cell? ⟨w.heap.size, 5, none⟩ = some (.int .u16 y) ∧ w'.cell? ⟨w.heap.size, 6, none⟩ = some (.int .u16 z) ∧ w'.cell? ⟨w3.heap.size + 1, 3, none⟩ = some (.slice (some ⟨g5, 0, none⟩) f.code.length c5))
        (first
          | exact HT0.out
          | assumption
          | exact HT1.out)
        (fail)
      all_goals
        obtain ⟨tq0, tq1, tq2, tq3⟩ := HTQ.out
        go_wp2_with fail
        refine HV.out.mono ?_
        rintro e w5 ⟨rfl, hw5⟩
        go_wp2
        go_ret
        exact ⟨rfl, HBF.out.trans (hw5.mono HBF.out.size)⟩
theorem sz_valid {p : Pg} (h : validB p = true) : Sz p ∧ 0 < p.funcs.length ∧ p.funcs.length ≤ 64 ∧ ∀ f ∈ p.funcs, 0 < f.code.length := by
  have hfn := fun f hf => valid_fn h (f := f) hf
  unfold validB layoutsB at h
  simp only [Bool.and_eq_true, decide_eq_true_eq, List.all_eq_true] at h
  obtain ⟨⟨⟨⟨⟨⟨h1, h2⟩, h3⟩, -⟩, -⟩, -⟩, -⟩ := h
  obtain ⟨m0, m1, -⟩ := h3
  unfold C.len at m1
  refine ⟨⟨by omega, by omega, by have := h2.2; omega, fun f hf => by have := (hfn f hf).len.2; omega, fun l hl => by have := (h2.1 l hl).2; omega⟩, by omega, h1.1, fun f hf => (hfn f hf).len.1⟩
end Go.Proofs.Ytcjkhbggongcjaa
