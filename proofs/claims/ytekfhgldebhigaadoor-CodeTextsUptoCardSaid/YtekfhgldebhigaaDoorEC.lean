/-
  The walk of the program's instruction.
-/
import Derived.Test.YtekfhgldebhigaaDoorEB
set_option linter.all false
namespace Go.Proofs.YtekfhgldebhigaaDoor
open Go.RowKit C
def zeroI : In := ⟨0, 0, 0, 0, 0⟩
/-- The instruction whose registers are listed. -/
def insF (p : Pg) (fn pc : Int) : In × Bool :=
  if 0 ≤ fn ∧ fn < len p.funcs ∧ 0 ≤ pc ∧ pc < len (p.funcs.getD fn.toNat default).code ∧ ¬ ((p.funcs.getD fn.toNat default).code.getD pc.toNat default).op = 51 then
    ((p.funcs.getD fn.toNat default).code.getD pc.toNat default, true) else (zeroI, false)
theorem getDI {l : List In} {i : Nat} (h : i < l.length) : l.getD i default = l[i] := by
  rw [List.getD_eq_getElem?_getD, List.getElem?_eq_getElem h]; rfl
theorem getDF {l : List Fc} {i : Nat} (h : i < l.length) : l.getD i default = l[i] := by
  rw [List.getD_eq_getElem?_getD, List.getElem?_eq_getElem h]; rfl
theorem below3 (w : World) (o1 o2 o3 : Obj) : Below w.heap.size w (((w.alloc o1).alloc o2).alloc o3) := belowA w o1 o2 o3
theorem below4 (w : World) (o1 o2 o3 o4 : Obj) : Below w.heap.size w ((((w.alloc o1).alloc o2).alloc o3).alloc o4) := (belowA w o1 o2 o3).alloc (by first | (simp; done) | (simp; omega)) o4
theorem heap4 (w : World) (o1 o2 o3 o4 : Obj) : ((((w.alloc o1).alloc o2).alloc o3).alloc o4).heap[w.heap.size + 1]? = some o2 ∧ ((((w.alloc o1).alloc o2).alloc o3).alloc o4).heap[w.heap.size + 3]? = some o4 ∧ ((((w.alloc o1).alloc o2).alloc o3).alloc o4).heap[w.heap.size]? = some o1 ∧ ((((w.alloc o1).alloc o2).alloc o3).alloc o4).heap[w.heap.size + 2]? = some o3 := by
  have b2 := Below.refl ((w.alloc o1).alloc o2).heap.size ((w.alloc o1).alloc o2) |>.alloc (Nat.le_refl _) o3 |>.alloc (by simp) o4
  have b1 := Below.refl (w.alloc o1).heap.size (w.alloc o1) |>.alloc (Nat.le_refl _) o2 |>.alloc (by simp) o3 |>.alloc (by first | (simp; done) | (simp; omega)) o4
  have b3 := Below.refl (((w.alloc o1).alloc o2).alloc o3).heap.size (((w.alloc o1).alloc o2).alloc o3) |>.alloc (Nat.le_refl _) o4
  have h2 := heap_alloc_new (w.alloc o1) o2
  have h3 := heap_alloc_new ((w.alloc o1).alloc o2) o3
  have h4 := heap_alloc_new (((w.alloc o1).alloc o2).alloc o3) o4
  simp only [World.size_alloc] at h2 h3 h4 b1 b2 b3
  exact ⟨(b2.block _ (by omega)).trans h2, h4, (b1.block _ (by omega)).trans (heap_alloc_new w o1), (b3.block _ (by omega)).trans h3⟩
abbrev ic (x : In) : Array Value := #[.int .i64 x.op, .int .i64 x.a, .int .i64 x.b, .int .i64 x.c, .int .i64 x.at']
theorem cells5 {w : World} {b : Nat} {x : In} (h : w.heap[b]? = some (.cells (ic x) 34 (0, 0))) : (w.cell? ⟨b, 0, none⟩ = some (.int .i64 x.op) ∧ w.cell? ⟨b, 1, none⟩ = some (.int .i64 x.a) ∧ w.cell? ⟨b, 2, none⟩ = some (.int .i64 x.b) ∧ w.cell? ⟨b, 3, none⟩ = some (.int .i64 x.c) ∧ w.cell? ⟨b, 4, none⟩ = some (.int .i64 x.at')) ∧
    w.frozen? ⟨b, 0, none⟩ = false ∧ w.frozen? ⟨b, 1, none⟩ = false ∧ w.frozen? ⟨b, 2, none⟩ = false ∧ w.frozen? ⟨b, 3, none⟩ = false ∧ w.frozen? ⟨b, 4, none⟩ = false := by
  simp [World.cell?, World.frozen?, h]
theorem blk5 {w : World} {b : Nat} {x y : In} (h : w.heap[b]? = some (.cells (ic y) 34 (0, 0))) :
    (((((w.setCell ⟨b, 0, none⟩ (.int .i64 x.op)).setCell ⟨b, 1, none⟩ (.int .i64 x.a)).setCell ⟨b, 2, none⟩ (.int .i64 x.b)).setCell ⟨b, 3, none⟩ (.int .i64 x.c)).setCell ⟨b, 4, none⟩ (.int .i64 x.at')).heap[b]? = some (.cells (ic x) 34 (0, 0)) := by
  simp [World.setCell, Array.getElem?_modify, h]
theorem ret_pair {fn : Func} {s t : Nat} (hr : fn.results = #[ResultVar.cell s 34, ResultVar.tmp t]) {R : Ending → World → Prop} {a : Act} {W : World} {r : Nat} {x : In} {b : Bool} (ht : a.tmps.getD s undef = .pointer (some ⟨r, 0, none⟩)) (hb' : a.tmps.getD t undef = .bool b) (hd : a.defers = [])
    (hb : W.heap[r]? = some (.cells (ic x) 34 (0, 0))) (hR : R (.returned (.tuple #[xv x, .bool b])) W) : bodyPost Tryd.prog fn R Exit.ret a W := by
  have ht' : a.tmps[s]?.getD undef = .pointer (some ⟨r, 0, none⟩) := by simpa using ht
  have hb2 : a.tmps[t]?.getD undef = .bool b := by simpa using hb'
  obtain ⟨⟨q0, q1, q2, q3, q4⟩, _⟩ := cells5 hb
  exact bodyPost_ret (v := .tuple #[xv x, .bool b]) (by simp [results, hr, ht', hb2, go_sem, q0, q1, q2, q3, q4]) hd hR
theorem heap2 (w : World) (o1 o2 : Obj) : ((w.alloc o1).alloc o2).heap[w.heap.size + 1]? = some o2 := by
  have h := heap_alloc_new (w.alloc o1) o2
  rw [World.size_alloc] at h; exact h
theorem heap3 (w : World) (o1 o2 o3 : Obj) : (((w.alloc o1).alloc o2).alloc o3).heap[w.heap.size + 1]? = some o2 := by
  have b2 := Below.refl ((w.alloc o1).alloc o2).heap.size ((w.alloc o1).alloc o2) |>.alloc (Nat.le_refl _) o3
  have h2 := heap_alloc_new (w.alloc o1) o2
  simp only [World.size_alloc] at h2 b2
  exact (b2.block _ (by omega)).trans h2
set_option maxRecDepth 100000 in
set_option maxHeartbeats 8000000 in
theorem instruction_any (p : Pg) (A B D : Option Addr) (ca cb cd : Nat) (fn pc : Int) (w : World) (hp : PgAt w p A B D ca cb cd) (hv : validB p = true) (bf : i64 fn) (bp : i64 pc) :
    Calls Tryd.prog 36 #[pv p A B D ca cb cd, .int .i64 fn, .int .i64 pc] w fun e w' => e = .returned (.tuple #[xv (insF p fn pc).1, .bool (insF p fn pc).2]) ∧ Below w.heap.size w w' := by
  have HP := Lib.hid hp
  have HVB := Lib.hid hv
  have m1 := hp.ka.2
  unfold maxLen at m1
  clear hp hv
  have NONE : ∀ (W : World), Below w.heap.size w W → insF p fn pc = (zeroI, false) → (Ending.returned (.tuple #[xv zeroI, .bool false]) = .returned (.tuple #[xv (insF p fn pc).1, .bool (insF p fn pc).2]) ∧ Below w.heap.size w W) := fun W hW h => ⟨by rw [h], hW⟩
  by_cases c1 : fn < 0
  · have d1 : decide (fn < 0) = true := by simpa using c1
    have HF : Hid (insF p fn pc = (zeroI, false)) := Lib.hid (by unfold insF; rw [if_neg (by omega)])
    go_enter Tryd.func36, Tryd.ntmps36
    go_wp2
    exact ret_pair Tryd.results36 (r := w.heap.size + 1) (x := zeroI) (b := false) rfl rfl rfl (heap2 _ _ _) (NONE _ (below2 _ _ _) HF.out)
  · have d1 : decide (fn < 0) = false := by simpa using c1
    by_cases c2 : fn < (p.funcs.length : Int)
    · have d2 : decide ((p.funcs.length : Int) ≤ fn) = false := by simp; omega
      obtain ⟨gA, oA, rfl, hA⟩ := HP.out.fs.at (by omega)
      have hx := (hA fn.toNat (by omega))
      obtain ⟨f, hfe⟩ : ∃ f, p.funcs[fn.toNat]'(by omega) = f := ⟨_, rfl⟩
      rw [hfe] at hx
      have hx2 := hx.below (below2 w (.cells #[.slice (some ⟨gA, oA, none⟩) p.funcs.length ca, .slice B p.globals.length cb, .slice D p.layouts.length cd, .int .i64 p.main] 26) (.cells #[.int .i64 0, .int .i64 0, .int .i64 0, .int .i64 0, .int .i64 0] 34))
      have q0 := hx2.c0
      have q1 := hx2.c1
      have q2 := hx2.c2
      obtain ⟨Af, caf, q3', hvv'⟩ := hx.ok
      have q3 := (bl_cell (below2 w (.cells #[.slice (some ⟨gA, oA, none⟩) p.funcs.length ca, .slice B p.globals.length cb, .slice D p.layouts.length cd, .int .i64 p.main] 26) (.cells #[.int .i64 0, .int .i64 0, .int .i64 0, .int .i64 0, .int .i64 0] 34)) hx.lt).trans q3'
      have HV := Lib.hid hvv'
      have hfd : p.funcs.getD fn.toNat default = f := by rw [getDF (by omega), hfe]
      have HFD := Lib.hid hfd
      have HMEM : Hid (f ∈ p.funcs) := Lib.hid (by rw [← hfe]; exact List.getElem_mem _)
      have k0 : 0 ≤ fn := by omega
      have m2 := hvv'.k.2
      unfold maxLen at m2
      clear hx hx2 hfe hA hvv' q3' hfd
      by_cases c3 : pc < 0
      · have d3 : decide (pc < 0) = true := by simpa using c3
        have HF : Hid (insF p fn pc = (zeroI, false)) := Lib.hid (by unfold insF; rw [if_neg (by omega)])
        go_enter Tryd.func36, Tryd.ntmps36
        go_wp2
        exact ret_pair Tryd.results36 (r := w.heap.size + 1) (x := zeroI) (b := false) rfl rfl rfl (heap3 _ _ _ _) (NONE _ (below3 _ _ _ _) HF.out)
      · have d3 : decide (pc < 0) = false := by simpa using c3
        by_cases c4 : pc < (f.code.length : Int)
        · have d4 : decide ((f.code.length : Int) ≤ pc) = false := by simp; omega
          obtain ⟨gC, oC, rfl, hC⟩ := HV.out.row.at (by omega)
          have hx := (hC pc.toNat (by omega))
          obtain ⟨x, hxe⟩ : ∃ x, f.code[pc.toNat]'(by omega) = x := ⟨_, rfl⟩
          rw [hxe] at hx
          have hx2 := hx.below (below3 w (.cells #[.slice (some ⟨gA, oA, none⟩) p.funcs.length ca, .slice B p.globals.length cb, .slice D p.layouts.length cd, .int .i64 p.main] 26) (.cells #[.int .i64 0, .int .i64 0, .int .i64 0, .int .i64 0, .int .i64 0] 34) (.cells #[.string f.name, .int .i64 f.params, .int .i64 f.regs, .slice (some ⟨gC, oC, none⟩) f.code.length caf] 37))
          have r0 := hx2.c0
          have r1 := hx2.c1
          have r2 := hx2.c2
          have r3 := hx2.c3
          have r4 := hx2.c4
          have HX := Lib.hid hx
          have HXD : Hid ((p.funcs.getD fn.toNat default).code.getD pc.toNat default = x) := Lib.hid (by rw [HFD.out, getDI (by omega), hxe])
          have HXM : Hid (x ∈ f.code) := Lib.hid (by rw [← hxe]; exact List.getElem_mem _)
          have k1 : 0 ≤ pc := by omega
          clear hx hx2 hxe hC
          by_cases c5 : x.op = 51
          · have d5 : ((x.op : Int) == 51) = true := by simp [c5]
            have HF : Hid (insF p fn pc = (zeroI, false)) := Lib.hid (by unfold insF; rw [HXD.out, if_neg (by intro h; exact h.2.2.2.2 c5)])
            clear c5
            go_enter Tryd.func36, Tryd.ntmps36
            go_wp2
            exact ret_pair Tryd.results36 (r := w.heap.size + 1) (x := zeroI) (b := false) rfl rfl rfl (heap4 _ _ _ _ _).1 (NONE _ (below4 _ _ _ _ _) HF.out)
          · have d5 : ((x.op : Int) == 51) = false := by simp [c5]
            have HF : Hid (insF p fn pc = (x, true)) := Lib.hid (by unfold insF; rw [HXD.out, HFD.out, if_pos ⟨k0, c2, k1, c4, c5⟩])
            have HOK : Hid (fnP p f = true) := Lib.hid (by
              have h1 := HVB.out
              rw [← validP_eq HP.out.small] at h1
              unfold validP at h1
              simp only [Bool.and_eq_true, List.all_eq_true] at h1
              exact h1.2 f HMEM.out)
            have HSZ : Hid (sizesP f = true) := Lib.hid (by have := HOK.out; unfold fnP at this; simp only [Bool.and_eq_true] at this; exact this.1.1.1)
            have HFT : Hid (fitsP p f x = true) := Lib.hid (by
              have := HOK.out; unfold fnP operandsP at this; simp only [Bool.and_eq_true, List.all_eq_true] at this
              exact (this.2 x HXM.out).2)
            have hrr : 0 ≤ f.regs ∧ f.regs ≤ 64 := by
              have := HSZ.out; unfold sizesP at this; simp only [decide_eq_true_eq] at this; omega
            have hHS : Hid (∀ V, Below w.heap.size w V → Calls Tryd.prog 32 #[fv f (some ⟨gC, oC, none⟩) caf] V fun e w' => e = .returned (.bool true) ∧ Below V.heap.size V w') := Lib.hid fun V hV => by
              have := hasSizes_any f (some ⟨gC, oC, none⟩) caf V (HV.out.below hV); rw [HSZ.out] at this; exact this
            have hHF : Hid (∀ V, Below w.heap.size w V → Calls Tryd.prog 56 #[pv p (some ⟨gA, oA, none⟩) B D ca cb cd, fv f (some ⟨gC, oC, none⟩) caf, xv x] V fun e w' => e = .returned (.bool true) ∧ Below V.heap.size V w') := Lib.hid fun V hV => by
              have := fits_any p (some ⟨gA, oA, none⟩) B D ca cb cd f (some ⟨gC, oC, none⟩) caf x V ⟨HP.out.below hV, HV.out.below hV, hrr, HX.out.b0, HX.out.b1, HX.out.b2, HX.out.b3, HX.out.b4⟩
              rw [HFT.out] at this; exact this
            have hb4 := Lib.hid (below4 w (.cells #[.slice (some ⟨gA, oA, none⟩) p.funcs.length ca, .slice B p.globals.length cb, .slice D p.layouts.length cd, .int .i64 p.main] 26) (.cells #[.int .i64 0, .int .i64 0, .int .i64 0, .int .i64 0, .int .i64 0] 34) (.cells #[.string f.name, .int .i64 f.params, .int .i64 f.regs, .slice (some ⟨gC, oC, none⟩) f.code.length caf] 37) (.cells #[.int .i64 x.op, .int .i64 x.a, .int .i64 x.b, .int .i64 x.c, .int .i64 x.at'] 34))
            have hh4 := Lib.hid (heap4 w (.cells #[.slice (some ⟨gA, oA, none⟩) p.funcs.length ca, .slice B p.globals.length cb, .slice D p.layouts.length cd, .int .i64 p.main] 26) (.cells #[.int .i64 0, .int .i64 0, .int .i64 0, .int .i64 0, .int .i64 0] 34) (.cells #[.string f.name, .int .i64 f.params, .int .i64 f.regs, .slice (some ⟨gC, oC, none⟩) f.code.length caf] 37) (.cells #[.int .i64 x.op, .int .i64 x.a, .int .i64 x.b, .int .i64 x.c, .int .i64 x.at'] 34))
            clear c5 hrr
            go_enter Tryd.func36, Tryd.ntmps36
            go_wp2_with fail
            refine (hHS.out _ hb4.out).mono ?_
            rintro e w3 ⟨rfl, hw3⟩
            have s3 := hw3.size
            simp only [World.size_alloc] at s3
            have e0 := Lib.hid ((hw3.block (w.heap.size + 1) (by first | (simp; done) | (simp; omega))).trans hh4.out.1)
            have e1 := Lib.hid ((hw3.block (w.heap.size + 3) (by simp)).trans hh4.out.2.1)
            have e2 := (hw3.block (w.heap.size) (by first | (simp; done) | (simp; omega))).trans hh4.out.2.2.1
            have e3 := (hw3.block (w.heap.size + 2) (by first | (simp; done) | (simp; omega))).trans hh4.out.2.2.2
            have hB3 := Lib.hid (hb4.out.trans (hw3.mono hb4.out.size))
            have p0 : w3.cell? ⟨w.heap.size, 0, none⟩ = some (.slice (some ⟨gA, oA, none⟩) p.funcs.length ca) := by simp [World.cell?, e2]
            have p1 : w3.cell? ⟨w.heap.size, 1, none⟩ = some (.slice B p.globals.length cb) := by simp [World.cell?, e2]
            have p2 : w3.cell? ⟨w.heap.size, 2, none⟩ = some (.slice D p.layouts.length cd) := by simp [World.cell?, e2]
            have p3 : w3.cell? ⟨w.heap.size, 3, none⟩ = some (.int .i64 p.main) := by simp [World.cell?, e2]
            have t0 : w3.cell? ⟨w.heap.size + 2, 0, none⟩ = some (.string f.name) := by simp [World.cell?, e3]
            have t1 : w3.cell? ⟨w.heap.size + 2, 1, none⟩ = some (.int .i64 f.params) := by simp [World.cell?, e3]
            have t2 : w3.cell? ⟨w.heap.size + 2, 2, none⟩ = some (.int .i64 f.regs) := by simp [World.cell?, e3]
            have t3 : w3.cell? ⟨w.heap.size + 2, 3, none⟩ = some (.slice (some ⟨gC, oC, none⟩) f.code.length caf) := by simp [World.cell?, e3]
            obtain ⟨⟨x0, x1, x2, x3, x4⟩, _⟩ := cells5 e1.out
            clear e2 e3 hw3 q0 q1 q2 q3 r0 r1 r2 r3 r4
            go_wp2_with fail
            refine (hHF.out _ hB3.out).mono ?_
            rintro e w4 ⟨rfl, hw4⟩
            have s4 := hw4.size
            have n0 := Lib.hid ((hw4.block (w.heap.size + 1) (by omega)).trans e0.out)
            have n1 := Lib.hid ((hw4.block (w.heap.size + 3) (by omega)).trans e1.out)
            have hB4 := Lib.hid (hB3.out.trans (hw4.mono hB3.out.size))
            clear x0 x1 x2 x3 x4 p0 p1 p2 p3 t0 t1 t2 t3 hw4
            obtain ⟨⟨x0, x1, x2, x3, x4⟩, _⟩ := cells5 n1.out
            obtain ⟨⟨z0, z1, z2, z3, z4⟩, f0, f1, f2, f3, f4⟩ := cells5 (x := zeroI) n0.out
            simp only [zeroI] at z0 z1 z2 z3 z4
            go_wp2
            exact ret_pair Tryd.results36 (r := w.heap.size + 1) (x := x) (b := true) rfl rfl rfl (blk5 (y := zeroI) n0.out) ⟨by rw [HF.out], ((((hB4.out.setCell (by simp) _).setCell (by simp) _).setCell (by simp) _).setCell (by simp) _).setCell (by simp) _⟩
        · have d4 : decide ((f.code.length : Int) ≤ pc) = true := by simp; omega
          have HF : Hid (insF p fn pc = (zeroI, false)) := Lib.hid (by unfold insF; rw [HFD.out, if_neg (by simp only [C.len]; omega)])
          go_enter Tryd.func36, Tryd.ntmps36
          go_wp2
          exact ret_pair Tryd.results36 (r := w.heap.size + 1) (x := zeroI) (b := false) rfl rfl rfl (heap3 _ _ _ _) (NONE _ (below3 _ _ _ _) HF.out)
    · have d2 : decide ((p.funcs.length : Int) ≤ fn) = true := by simp; omega
      have HF : Hid (insF p fn pc = (zeroI, false)) := Lib.hid (by unfold insF; rw [if_neg (by simp only [C.len]; omega)])
      go_enter Tryd.func36, Tryd.ntmps36
      go_wp2
      exact ret_pair Tryd.results36 (r := w.heap.size + 1) (x := zeroI) (b := false) rfl rfl rfl (heap2 _ _ _) (NONE _ (below2 _ _ _) HF.out)
end Go.Proofs.YtekfhgldebhigaaDoor
