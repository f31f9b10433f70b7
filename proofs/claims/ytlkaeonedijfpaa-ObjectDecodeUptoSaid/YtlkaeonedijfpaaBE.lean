/-
  The program's appendProgram.
  The checksum of both, and its bytes.
-/
import Derived.Test.YtlkaeonedijfpaaBC
set_option linter.all false
namespace Go.Proofs.Ytlkaeonedijfpaa
open Go.RowKit C
/-- A program of little bulk. -/
structure Bk (p : Pg) : Prop where
  s : (p.funcs.map fun f => f.name.size + f.code.length + 1).sum + (p.globals.map fun g => g.name.size + 1).sum + (p.layouts.map (·.length)).sum ≤ 1048576
  l : p.layouts.length ≤ 1048576
theorem flat_le {α : Type} {e : α → Bs} {f : α → Nat} (c : Nat) : ∀ {l : List α}, (∀ x ∈ l, (e x).length ≤ c * f x) → (l.flatMap e).length ≤ c * (l.map f).sum := by
  intro l
  induction l with
  | nil => simp
  | cons a l ih =>
    intro h
    have h1 := h a List.mem_cons_self
    have h2 := ih fun x hx => h x (List.mem_cons_of_mem _ hx)
    rw [List.flatMap_cons, List.length_append, List.map_cons, List.sum_cons, Nat.mul_add]; omega
theorem flat_take {α : Type} {e : α → Bs} (l : List α) (k : Nat) : ((l.take k).flatMap e).length ≤ (l.flatMap e).length := by
  have : l.flatMap e = (l.take k).flatMap e ++ (l.drop k).flatMap e := by rw [← List.flatMap_append, List.take_append_drop]
  rw [this, List.length_append]; omega
theorem flat_succ {α : Type} {e : α → Bs} {l : List α} {k : Nat} (h : k < l.length) : (l.take (k + 1)).flatMap e = (l.take k).flatMap e ++ e l[k] := by
  rw [List.take_succ_eq_append_getElem h, List.flatMap_append]; simp
theorem one_le_sum {α : Type} {f : α → Nat} {l : List α} {x : α} (h : x ∈ l) : f x ≤ (l.map f).sum := by
  induction l with
  | nil => cases h
  | cons a l ih =>
    simp only [List.map_cons, List.sum_cons]
    rcases List.mem_cons.1 h with rfl | h
    · omega
    · have := ih h; omega
theorem num_le_sum {α : Type} {f : α → Nat} {l : List α} (h : ∀ x ∈ l, 1 ≤ f x) : l.length ≤ (l.map f).sum := by
  induction l with
  | nil => simp
  | cons a l ih =>
    simp only [List.map_cons, List.sum_cons, List.length_cons]
    have h1 := h a List.mem_cons_self
    have h2 := ih fun x hx => h x (List.mem_cons_of_mem _ hx)
    omega
theorem Bk.name {p : Pg} (h : Bk p) : (∀ f ∈ p.funcs, f.name.size ≤ 1048576 ∧ f.code.length ≤ 1048576) ∧ (∀ g ∈ p.globals, g.name.size ≤ 1048576) ∧ (∀ l ∈ p.layouts, l.length ≤ 1048576) ∧ p.funcs.length ≤ 1048576 ∧ p.globals.length ≤ 1048576 := by
  have hs := h.s
  refine ⟨fun f hf => ?_, fun g hg => ?_, fun l hl => ?_, ?_, ?_⟩
  · have := one_le_sum (f := fun f : Fc => f.name.size + f.code.length + 1) hf; omega
  · have := one_le_sum (f := fun g : Gl => g.name.size + 1) hg; omega
  · have := one_le_sum (f := fun l : List Int => l.length) hl; omega
  · have := num_le_sum (l := p.funcs) (f := fun f : Fc => f.name.size + f.code.length + 1) (fun x _ => by simp); omega
  · have := num_le_sum (l := p.globals) (f := fun g : Gl => g.name.size + 1) (fun x _ => by simp); omega
theorem pg_ip {w : World} {p : Pg} {A B D : Option Addr} {ca cb cd : Nat} (hp : PgAt w p A B D ca cb cd) (hb : Bk p) : IP p := by
  obtain ⟨h1, h2, h3, h4, h5⟩ := hb.name
  have hl := hb.l
  refine ⟨⟨i64_nat (by omega), fun g hg => ?_⟩, ⟨i64_nat (by omega), fun l hl => ?_⟩, ⟨i64_nat (by omega), fun f hf => ?_⟩, hp.m⟩
  · obtain ⟨i, hi, rfl⟩ := List.mem_iff_getElem.1 hg
    obtain ⟨_, _, _, hh⟩ := hp.gs.at (by omega)
    exact ⟨i64_nat (by have := h2 _ hg; omega), (hh i hi).b1⟩
  · refine ⟨i64_nat (by have := h3 _ hl; omega), fun k hk => ?_⟩
    obtain ⟨i, hi, rfl⟩ := List.mem_iff_getElem.1 hl
    obtain ⟨_, _, _, hh⟩ := hp.ls.at (by omega)
    obtain ⟨_, _, _, _, _, hr⟩ := (hh i hi).row
    obtain ⟨j, hj, rfl⟩ := List.mem_iff_getElem.1 hk
    obtain ⟨_, _, _, hh2⟩ := hr.at (by omega)
    exact (hh2 j hj).b0
  · have hn := h1 _ hf
    obtain ⟨i, hi, rfl⟩ := List.mem_iff_getElem.1 hf
    obtain ⟨_, _, _, hh⟩ := hp.fs.at (by omega)
    refine ⟨i64_nat (by omega), (hh i hi).b1, (hh i hi).b2, i64_nat (by omega), fun x hx => ?_⟩
    obtain ⟨_, _, _, _, _, hr⟩ := (hh i hi).row
    obtain ⟨j, hj, rfl⟩ := List.mem_iff_getElem.1 hx
    obtain ⟨_, _, _, hh2⟩ := hr.at (by omega)
    exact (hh2 j hj).i5
theorem gls_len {p : Pg} (hi : IP p) (hb : Bk p) : (p.globals.flatMap glE).length ≤ 20 * 1048576 := by
  have := flat_le (e := glE) (f := fun g : Gl => g.name.size + 1) 20 (l := p.globals) (fun g hg => by
    have h1 := textE_len (s := g.name) (by have := hb.name.2.1 g hg; omega)
    have h2 := numE_len (hi.g.2 g hg).2
    unfold glE; rw [List.length_append]; omega)
  have := hb.s
  omega
theorem lyE_nums (l : List Int) : lyE l = numE l.length ++ numsE l := rfl
theorem lys_len {p : Pg} (hi : IP p) (hb : Bk p) : (p.layouts.flatMap lyE).length ≤ 20 * 1048576 := by
  have h0 := flat_le (e := lyE) (f := fun l : List Int => l.length + 1) 10 (l := p.layouts) (fun l hl => by
    have h1 := numE_len (hi.y.2 l hl).1
    have h2 := nums_len (hi.y.2 l hl).2
    rw [lyE_nums, List.length_append]; omega)
  have h1 : ∀ l : List (List Int), (l.map fun l => l.length + 1).sum = (l.map (·.length)).sum + l.length := by
    intro l
    induction l with
    | nil => rfl
    | cons a l ih => simp only [List.map_cons, List.sum_cons, List.length_cons, ih]; omega
  rw [h1] at h0
  have := hb.s
  have := hb.l
  omega
theorem fns_len {p : Pg} (hi : IP p) (hb : Bk p) : (p.funcs.flatMap fnE).length ≤ 60 * 1048576 := by
  have := flat_le (e := fnE) (f := fun f : Fc => f.name.size + f.code.length + 1) 60 (l := p.funcs) (fun f hf => by
    obtain ⟨h1, h2, h3, h4, h5⟩ := hi.f.2 f hf
    obtain ⟨n1, n2⟩ := hb.name.1 f hf
    have k1 := fnH_len h2 h3 n1 n2
    have k2 := codeE_len h5 0
    rw [fnE_eq, List.length_append]; omega)
  have := hb.s
  omega
/-- What is written of a program, by its parts. -/
def pg1 (p : Pg) (k : Nat) : Bs := numE p.globals.length ++ (p.globals.take k).flatMap glE
def pg2 (p : Pg) (k : Nat) : Bs := pg1 p p.globals.length ++ numE p.layouts.length ++ (p.layouts.take k).flatMap lyE
def pg3 (p : Pg) (k : Nat) : Bs := pg2 p p.layouts.length ++ numE p.funcs.length ++ (p.funcs.take k).flatMap fnE
theorem pgE_eq (p : Pg) : pgE p = pg3 p p.funcs.length ++ numE p.main := by
  unfold pg3 pg2 pg1 pgE listE
  simp only [List.take_length, List.append_assoc]
theorem pg1_len {p : Pg} (hi : IP p) (hb : Bk p) (k : Nat) : (pg1 p k).length ≤ 30 * 1048576 := by
  have h1 := gls_len hi hb
  have h2 := flat_take (e := glE) p.globals k
  have h3 := numE_len hi.g.1
  unfold pg1; rw [List.length_append]; omega
theorem pg2_len {p : Pg} (hi : IP p) (hb : Bk p) (k : Nat) : (pg2 p k).length ≤ 60 * 1048576 := by
  have h0 := pg1_len hi hb p.globals.length
  have h1 := lys_len hi hb
  have h2 := flat_take (e := lyE) p.layouts k
  have h3 := numE_len hi.y.1
  unfold pg2; rw [List.length_append, List.length_append]; omega
theorem pg3_len {p : Pg} (hi : IP p) (hb : Bk p) (k : Nat) : (pg3 p k).length ≤ 130 * 1048576 := by
  have h0 := pg2_len hi hb p.layouts.length
  have h1 := fns_len hi hb
  have h2 := flat_take (e := fnE) p.funcs k
  have h3 := numE_len hi.f.1
  unfold pg3; rw [List.length_append, List.length_append]; omega
theorem pgE_len {p : Pg} (hi : IP p) (hb : Bk p) : (pgE p).length ≤ 140 * 1048576 := by
  have h0 := pg3_len hi hb p.funcs.length
  have h3 := numE_len hi.m
  rw [pgE_eq, List.length_append]; omega
theorem pg1_succ {p : Pg} {k : Nat} (h : k < p.globals.length) : pg1 p (k + 1) = pg1 p k ++ (textE p.globals[k].name ++ numE p.globals[k].kind) := by
  unfold pg1; rw [flat_succ h, ← List.append_assoc]; rfl
theorem pg2_succ {p : Pg} {k : Nat} (h : k < p.layouts.length) : pg2 p (k + 1) = pg2 p k ++ (numE p.layouts[k].length ++ numsE p.layouts[k]) := by
  unfold pg2; rw [flat_succ h, ← List.append_assoc]; rfl
theorem pg3_succ {p : Pg} {k : Nat} (h : k < p.funcs.length) : pg3 p (k + 1) = pg3 p k ++ fnE p.funcs[k] := by
  unfold pg3; rw [flat_succ h, ← List.append_assoc]
/-- What is known while a program is written. -/
structure Wr (w0 w wr : World) (v s0 : Value) (l : Bs) (b : Nat) (cs : Array Value) : Prop where
  st : St w0 wr s0 l
  gr : Gr w v wr s0
  bx : Bx wr s0 b cs 31
theorem Wr.next {w0 w wr w' : World} {v s0 v' : Value} {l l' : Bs} {b : Nat} {cs : Array Value} (h : Wr w0 w wr v s0 l b cs) (ho : OwnB w0.heap.size w' v' l') (hg : Gr wr s0 w' v') : Wr w0 w w' v v' l' b cs :=
  ⟨h.st.gr hg ho, h.gr.trans hg, h.bx.gr hg⟩
theorem Wr.alloc {w0 w wr : World} {v s0 : Value} {l : Bs} {b : Nat} {cs : Array Value} (h : Wr w0 w wr v s0 l b cs) (o : Obj) : Wr w0 w (wr.alloc o) v s0 l b cs := h.next (h.st.own.alloc o) ((Gr.refl _ _).alloc o)
theorem Wr.size {w0 w wr : World} {v s0 : Value} {l : Bs} {b : Nat} {cs : Array Value} (h : Wr w0 w wr v s0 l b cs) : w0.heap.size ≤ wr.heap.size := h.st.bel.size
/-- A row of numbers that came in. -/
theorem nums_old {w0 w : World} {v : Value} {l : Bs} (S : St w0 w v l) {A : Option Addr} {x : List Int} (h : Row 1 (IntAt w0) A x) : NumsAt w v A x := by
  intro i hi
  obtain ⟨g, o, e, hh⟩ := h.at (by omega)
  have h1 := hh i hi
  have h2 := h1.below S.bel
  refine ⟨g, o, e, h2.lt, fun e2 => ?_, by have := h2.c0; rwa [Nat.mul_one] at this, h1.b0⟩
  have := S.ge _ e2
  have := h1.lt
  omega
set_option maxRecDepth 100000 in
set_option maxHeartbeats 8000000 in
theorem oprog_any (w0 : World) (p : Pg) (A B D : Option Addr) (ca cb cd : Nat) (v : Value) (l : Bs) (w : World) (hp : PgAt w0 p A B D ca cb cd) (bel : Below w0.heap.size w0 w) (own : OwnX w0.heap.size w v l) (hb : Bk p) (hl : l.length ≤ 1000) :
    Calls Try.prog 25 #[v, pv p A B D ca cb cd] w (Ap w0 w v (l ++ pgE p)) := by
  have hs0 := bel.size
  have hip := pg_ip hp hb
  have HP := Lib.hid hp
  have HI := Lib.hid hip
  have HB := Lib.hid hb
  have HBE := Lib.hid bel
  have HOX := Lib.hid own
  have H1 := Lib.hid (onum_x w0.heap.size v l (p.globals.length : Int) (w.alloc (.cells (pb p A B D ca cb cd) 31)) (own.alloc _) (by simp; omega) (by omega) hip.g.1)
  have hn1 := hb.name.2.2.2.2
  have hn2 := hb.l
  have hn3 := hb.name.2.2.2.1
  clear hp bel own hb hip
  go_enter Try.func25, Try.ntmps25
  go_wp2_with fail
  refine H1.out.mono ?_
  rintro e w1 ⟨v1, rfl, ho1, hg1⟩
  have W1 : Hid (Wr w0 w w1 v v1 (l ++ pg1 p 0) w.heap.size (pb p A B D ca cb cd)) := Lib.hid ⟨⟨HBE.out.trans (hg1.pre.below hs0 fun k hk => (HOX.out.lt k hk).1), by simpa [pg1] using ho1⟩, hg1.pre, Bx.gr ⟨heap_alloc_new w _, fun e => by have := (HOX.out.lt _ e).2; omega⟩ hg1⟩
  clear ho1 hg1 H1
  obtain ⟨⟨c0, c1, c2, c3⟩, _⟩ := cells4 W1.out.bx.blk
  go_wp2_with fail
  clear c0 c1 c2 c3
  go_loopw [0, 19] (fun s0 s19 wr => ∃ k : Nat, k ≤ p.globals.length ∧ s19 = .int .i64 (k : Int) ∧ Wr w0 w wr v s0 (l ++ pg1 p k) w.heap.size (pb p A B D ca cb cd)) (fun _ s19 _ => p.globals.length - (intOf s19).toNat)
  case atStart => exact ⟨0, Nat.zero_le _, rfl, W1.out⟩
  case round =>
    obtain ⟨k, hk, rfl, hW⟩ := hrel
    have HW := Lib.hid hW
    clear hW W1
    by_cases hlt : k < p.globals.length
    · obtain ⟨g, o, hAe, hh⟩ := HP.out.gs.at (by omega)
      have hx := (hh k hlt).below HW.out.st.bel
      subst hAe
      obtain ⟨x, hxe⟩ : ∃ x, p.globals[k] = x := ⟨_, rfl⟩
      have hxm : x ∈ p.globals := by rw [← hxe]; exact List.getElem_mem hlt
      rw [hxe] at hx
      have q0 := hx.c0
      have q1 := hx.c1
      have HX := Lib.hid hxe
      have hlen := pg1_len HI.out HB.out k
      have hnm := HB.out.name.2.1 x hxm
      have hki := (HI.out.g.2 x hxm).2
      have H2 := Lib.hid (otext_any w0.heap.size u0 _ x.name (wr.alloc (.cells #[.string x.name, .int .i64 x.kind] 51)) (HW.out.alloc _).st.own (HW.out.alloc _).size (by rw [List.length_append]; omega))
      have HKI := Lib.hid hki
      have htl := textE_len (s := x.name) (by omega)
      clear hxe hx hh hxm hki
      go_wp2_with fail
      refine H2.out.mono ?_
      rintro e w2 ⟨v2, rfl, ho2, hg2⟩
      have W2 := Lib.hid ((HW.out.alloc _).next ho2 hg2)
      have B2 := Lib.hid ((Bx.new HW.out.st #[.string x.name, .int .i64 x.kind] 51).gr hg2)
      have H3 := Lib.hid (onum_loop w0.heap.size v2 _ x.kind w2 ho2 W2.out.size (by rw [List.length_append, List.length_append]; omega) HKI.out)
      clear ho2 hg2 H2 q0 q1
      have r1 : w2.cell? ⟨wr.heap.size, 1, none⟩ = some (.int .i64 x.kind) := by simp [World.cell?, B2.out.blk]
      go_wp2_with fail
      refine H3.out.mono ?_
      rintro e w3 ⟨v3, rfl, ho3, hg3⟩
      have W3 : Hid (Wr w0 w w3 v v3 (l ++ pg1 p (k + 1)) w.heap.size _) := Lib.hid (by rw [pg1_succ hlt, HX.out, ← List.append_assoc, ← List.append_assoc]; exact W2.out.next ho3 hg3)
      clear ho3 hg3 H3 r1
      go_wp2
      go_roundw
      case rel => exact ⟨k + 1, by omega, by go_num, W3.out⟩
      case measure => simp [intOf]; omega
    · obtain rfl : k = p.globals.length := by omega
      have hlen := pg1_len HI.out HB.out p.globals.length
      obtain ⟨⟨c0, c1, c2, c3⟩, _⟩ := cells4 HW.out.bx.blk
      have H2 := Lib.hid (onum_loop w0.heap.size u0 _ (p.layouts.length : Int) wr HW.out.st.own HW.out.size (by rw [List.length_append]; omega) HI.out.y.1)
      clear hlen
      go_wp2_with fail
      refine H2.out.mono ?_
      rintro e w2 ⟨v2, rfl, ho2, hg2⟩
      have W2 : Hid (Wr w0 w w2 v v2 (l ++ pg2 p 0) w.heap.size (pb p A B D ca cb cd)) := Lib.hid (by have := HW.out.next ho2 hg2; simpa [pg2] using this)
      clear ho2 hg2 H2 c0 c1 c2 c3 HW
      obtain ⟨⟨c0, c1, c2, c3⟩, _⟩ := cells4 W2.out.bx.blk
      go_wp2_with fail
      clear c0 c1 c2 c3
      go_loopw [0, 40] (fun s0 s40 wr => ∃ k : Nat, k ≤ p.layouts.length ∧ s40 = .int .i64 (k : Int) ∧ Wr w0 w wr v s0 (l ++ pg2 p k) w.heap.size (pb p A B D ca cb cd)) (fun _ s40 _ => p.layouts.length - (intOf s40).toNat)
      case atStart => exact ⟨0, Nat.zero_le _, rfl, W2.out⟩
      case round =>
        obtain ⟨k, hk, rfl, hW⟩ := hrel
        have HW := Lib.hid hW
        clear hW W2
        by_cases hlt : k < p.layouts.length
        · obtain ⟨g, o, hAe, hh⟩ := HP.out.ls.at (by omega)
          have hx := (hh k hlt).below HW.out.st.bel
          have hx0 := hh k hlt
          subst hAe
          obtain ⟨x, hxe⟩ : ∃ x, p.layouts[k] = x := ⟨_, rfl⟩
          have hxm : x ∈ p.layouts := by rw [← hxe]; exact List.getElem_mem hlt
          rw [hxe] at hx hx0
          obtain ⟨Ax, cx, hx0', _, _, hxr0⟩ := hx0.row
          have q0 : wr.cell? ⟨g, o + k, none⟩ = some (.slice Ax x.length cx) := by rw [bl_cell HW.out.st.bel hx0.lt]; rw [Nat.mul_one] at hx0'; exact hx0'
          have HXR := Lib.hid hxr0
          have HX := Lib.hid hxe
          have hlen := pg2_len HI.out HB.out k
          have hnm := HB.out.name.2.2.1 x hxm
          have hki := HI.out.y.2 x hxm
          have hkl := numE_len hki.1
          have H2 := Lib.hid (onum_loop w0.heap.size u0 _ (x.length : Int) wr HW.out.st.own HW.out.size (by rw [List.length_append]; omega) hki.1)
          clear hxe hx hx0 hx0' hxr0 hh hxm hki
          go_wp2_with fail
          refine H2.out.mono ?_
          rintro e w2 ⟨v2, rfl, ho2, hg2⟩
          have W2 := Lib.hid (HW.out.next ho2 hg2)
          have H3 := Lib.hid (onums_any w0.heap.size v2 _ Ax x cx w2 ho2 W2.out.size hnm (by rw [List.length_append, List.length_append]; omega) (nums_old W2.out.st HXR.out))
          clear ho2 hg2 H2 q0
          go_wp2_with fail
          refine H3.out.mono ?_
          rintro e w3 ⟨v3, rfl, ho3, hg3⟩
          have W3 : Hid (Wr w0 w w3 v v3 (l ++ pg2 p (k + 1)) w.heap.size _) := Lib.hid (by rw [pg2_succ hlt, HX.out, ← List.append_assoc, ← List.append_assoc]; exact W2.out.next ho3 hg3)
          clear ho3 hg3 H3
          go_wp2
          go_roundw
          case rel => exact ⟨k + 1, by omega, by go_num, W3.out⟩
          case measure => simp [intOf]; omega
        · obtain rfl : k = p.layouts.length := by omega
          have hlen := pg2_len HI.out HB.out p.layouts.length
          obtain ⟨⟨c0, c1, c2, c3⟩, _⟩ := cells4 HW.out.bx.blk
          have H2 := Lib.hid (onum_loop w0.heap.size u0 _ (p.funcs.length : Int) wr HW.out.st.own HW.out.size (by rw [List.length_append]; omega) HI.out.f.1)
          clear hlen
          go_wp2_with fail
          refine H2.out.mono ?_
          rintro e w2 ⟨v2, rfl, ho2, hg2⟩
          have W2 : Hid (Wr w0 w w2 v v2 (l ++ pg3 p 0) w.heap.size (pb p A B D ca cb cd)) := Lib.hid (by have := HW.out.next ho2 hg2; simpa [pg3] using this)
          clear ho2 hg2 H2 c0 c1 c2 c3 HW
          obtain ⟨⟨c0, c1, c2, c3⟩, _⟩ := cells4 W2.out.bx.blk
          go_wp2_with fail
          clear c0 c1 c2 c3
          go_loopw [0, 60] (fun s0 s60 wr => ∃ k : Nat, k ≤ p.funcs.length ∧ s60 = .int .i64 (k : Int) ∧ Wr w0 w wr v s0 (l ++ pg3 p k) w.heap.size (pb p A B D ca cb cd)) (fun _ s60 _ => p.funcs.length - (intOf s60).toNat)
          case atStart => exact ⟨0, Nat.zero_le _, rfl, W2.out⟩
          case round =>
            obtain ⟨k, hk, rfl, hW⟩ := hrel
            have HW := Lib.hid hW
            clear hW W2
            by_cases hlt : k < p.funcs.length
            · obtain ⟨g, o, hAe, hh⟩ := HP.out.fs.at (by omega)
              have hx := (hh k hlt).below HW.out.st.bel
              have hx0 := hh k hlt
              subst hAe
              obtain ⟨x, hxe⟩ : ∃ x, p.funcs[k] = x := ⟨_, rfl⟩
              have hxm : x ∈ p.funcs := by rw [← hxe]; exact List.getElem_mem hlt
              rw [hxe] at hx hx0
              have q0 := hx.c0
              have q1 := hx.c1
              have q2 := hx.c2
              obtain ⟨Ax, cx, hx0', hcx, hmx, hxr0⟩ := hx0.row
              have q3 : wr.cell? ⟨g, o + k * 4 + 3, none⟩ = some (.slice Ax x.code.length cx) := by rw [bl_cell HW.out.st.bel hx0.lt]; exact hx0'
              have hfo : FvOk w0 x Ax cx := ⟨hxr0, ⟨hcx, hmx⟩, hx0.b1, hx0.b2⟩
              have HX := Lib.hid hxe
              have hlen := pg3_len HI.out HB.out k
              obtain ⟨hn4, hn5⟩ := HB.out.name.1 x hxm
              have H2 := Lib.hid (ofunc_any w0 x Ax cx u0 _ (wr.alloc (.cells #[.string x.name, .int .i64 x.params, .int .i64 x.regs, .slice Ax x.code.length cx] 55)) hfo (HW.out.alloc _).st hn4 hn5 (by rw [List.length_append]; omega))
              clear hxe hx hx0 hx0' hxr0 hh hxm hfo hcx hmx
              go_wp2_with fail
              refine H2.out.mono ?_
              rintro e w2 ⟨v2, rfl, ho2, hg2⟩
              have W3 : Hid (Wr w0 w w2 v v2 (l ++ pg3 p (k + 1)) w.heap.size _) := Lib.hid (by rw [pg3_succ hlt, HX.out, ← List.append_assoc]; exact (HW.out.alloc _).next ho2.own hg2)
              clear ho2 hg2 H2 q0 q1 q2 q3
              go_wp2
              go_roundw
              case rel => exact ⟨k + 1, by omega, by go_num, W3.out⟩
              case measure => simp [intOf]; omega
            · obtain rfl : k = p.funcs.length := by omega
              have hlen := pg3_len HI.out HB.out p.funcs.length
              obtain ⟨⟨c0, c1, c2, c3⟩, _⟩ := cells4 HW.out.bx.blk
              have H2 := Lib.hid (onum_loop w0.heap.size u0 _ p.main wr HW.out.st.own HW.out.size (by rw [List.length_append]; omega) HI.out.m)
              clear hlen
              go_wp2_with fail
              refine H2.out.mono ?_
              rintro e w2 ⟨v2, rfl, ho2, hg2⟩
              have W2 : Hid (Wr w0 w w2 v v2 (l ++ pgE p) w.heap.size (pb p A B D ca cb cd)) := Lib.hid (by rw [pgE_eq, ← List.append_assoc]; exact HW.out.next ho2 hg2)
              clear ho2 hg2 H2 c0 c1 c2 c3 HW
              go_wp2
              go_ret
              exact ⟨_, rfl, W2.out.st, W2.out.gr⟩
end Go.Proofs.Ytlkaeonedijfpaa

namespace Go.Proofs.Ytlkaeonedijfpaa
open Go.RowKit C
structure ByAt (w : World) (c : UInt8) (g o : Nat) : Prop where
  lt : g < w.heap.size
  c0 : w.cell? ⟨g, o, none⟩ = some (u8v c)
theorem ByAt.below {W w : World} {c : UInt8} {g o : Nat} (h : ByAt W c g o) (hb : Below W.heap.size W w) : ByAt w c g o :=
  ⟨by have := hb.size; have := h.lt; omega, by rw [bl_cell hb h.lt]; exact h.c0⟩
theorem step_nat (h : BitVec 32) (c : UInt8) : (stepS h c).toNat = ((h.toNat ^^^ c.toNat) * 16777619) % 4294967296 := by
  unfold stepS
  rw [BitVec.toNat_mul, BitVec.toNat_xor, BitVec.toNat_setWidth]
  have e1 : c.toBitVec.toNat = c.toNat := rfl
  have hc := c.toNat_lt
  rw [e1, Nat.mod_eq_of_lt (by omega : c.toNat < 2 ^ 32)]
  rfl
theorem step_walk (h : BitVec 32) (c : UInt8) : bits BinOp.xor IntKind.u32 ((h.toNat : Nat) : Int) ((c.toNat : Nat) : Int) * 16777619 % 4294967296 = ((stepS h c).toNat : Int) := by
  have hc := c.toNat_lt
  have hh := h.isLt
  rw [u32_xor_nat _ _ (by omega) (by omega), step_nat]
  omega
theorem sum_take {l : Bs} {k : Nat} (h : k < l.length) : sumF (l.take (k + 1)) = stepS (sumF (l.take k)) l[k] := by
  unfold sumF
  rw [List.take_succ_eq_append_getElem h, List.foldl_append]; rfl
theorem ret_u32 {a b : Int} (h : a = b) : Ending.returned (.int .u32 a) = .returned (.int .u32 b) := by rw [h]
set_option maxRecDepth 100000 in
set_option maxHeartbeats 1000000 in
theorem osum_any (A : Option Addr) (l : Bs) (cap : Nat) (w : World) (hl : l.length ≤ 9223372036854775807) (hr : Row 1 (ByAt w) A l) :
    Calls Try.prog 12 #[.slice A l.length cap] w fun e w' => e = .returned (.int .u32 ((sumF l).toNat : Int)) ∧ w = w' := by
  have HR := Lib.hid hr
  clear hr
  go_enter Try.func12, Try.ntmps12
  go_wp2
  go_loop [3, 8] (fun s3 s8 => ∃ k : Nat, k ≤ l.length ∧ s8 = .int .i64 (k : Int) ∧ s3 = .int .u32 ((sumF (l.take k)).toNat : Int)) (fun _ s8 => l.length - (intOf s8).toNat)
  case atStart => exact ⟨0, Nat.zero_le _, rfl, rfl⟩
  case round =>
    obtain ⟨k, hk, rfl, rfl⟩ := hrel
    by_cases hlt : k < l.length
    · obtain ⟨g, o, hAe, hh⟩ := HR.out.at (by omega)
      have hx := (hh k hlt).c0
      subst hAe
      obtain ⟨c, hc⟩ : ∃ c, l[k] = c := ⟨_, rfl⟩
      obtain ⟨H, hH⟩ : ∃ H, sumF (l.take k) = H := ⟨_, rfl⟩
      rw [hc, Nat.mul_one] at hx
      rw [hH]
      have hst := step_walk H c
      obtain ⟨z, hz⟩ : ∃ z, stepS H c = z := ⟨_, rfl⟩
      rw [hz] at hst
      have HZ : Hid (sumF (l.take (k + 1)) = z) := Lib.hid (by rw [sum_take hlt, hc, hH, hz])
      have hcb := c.toNat_lt
      unfold u8v at hx
      clear hc hH hz hh
      go_wp2
      go_round
      case rel => exact ⟨k + 1, by omega, by go_num, by first | rw [HZ.out, ← hst] | rw [HZ.out]⟩
      case measure => simp [intOf]; omega
    · obtain rfl : k = l.length := by omega
      go_wp2
      go_ret
      exact ⟨ret_u32 (by first | rfl | rw [List.take_length]), rfl⟩
set_option maxRecDepth 100000 in
set_option maxHeartbeats 1000000 in
theorem qsum_any (A : Option Addr) (l : Bs) (cap : Nat) (w : World) (hl : l.length ≤ 9223372036854775807) (hr : Row 1 (ByAt w) A l) :
    Calls Try.prog 13 #[.slice A l.length cap] w fun e w' => e = .returned (.int .u32 ((sumF l).toNat : Int)) ∧ w = w' := by
  have HR := Lib.hid hr
  clear hr
  go_enter Try.func13, Try.ntmps13
  go_wp2
  go_loop [3, 4] (fun s3 s8 => ∃ k : Nat, k ≤ l.length ∧ s8 = .int .i64 (k : Int) ∧ s3 = .int .u32 ((sumF (l.take k)).toNat : Int)) (fun _ s8 => l.length - (intOf s8).toNat)
  case atStart => exact ⟨0, Nat.zero_le _, rfl, rfl⟩
  case round =>
    obtain ⟨k, hk, rfl, rfl⟩ := hrel
    by_cases hlt : k < l.length
    · obtain ⟨g, o, hAe, hh⟩ := HR.out.at (by omega)
      have hx := (hh k hlt).c0
      subst hAe
      obtain ⟨c, hc⟩ : ∃ c, l[k] = c := ⟨_, rfl⟩
      obtain ⟨H, hH⟩ : ∃ H, sumF (l.take k) = H := ⟨_, rfl⟩
      rw [hc, Nat.mul_one] at hx
      rw [hH]
      have hst := step_walk H c
      obtain ⟨z, hz⟩ : ∃ z, stepS H c = z := ⟨_, rfl⟩
      rw [hz] at hst
      have HZ : Hid (sumF (l.take (k + 1)) = z) := Lib.hid (by rw [sum_take hlt, hc, hH, hz])
      have hcb := c.toNat_lt
      unfold u8v at hx
      clear hc hH hz hh
      go_wp2
      go_round
      case rel => exact ⟨k + 1, by omega, by go_num, by first | rw [HZ.out, ← hst] | rw [HZ.out]⟩
      case measure => simp [intOf]; omega
    · obtain rfl : k = l.length := by omega
      go_wp2
      go_ret
      exact ⟨ret_u32 (by first | rfl | rw [List.take_length]), rfl⟩
/-! ### its bytes -/
theorem OwnB.more {base n : Nat} {w : World} {v : Value} {l m : Bs} (h : w.ownsRow base 5 1 v n (l.map u8v ++ m.map u8v)) (hn : n = l.length + m.length) : OwnB base w v (l ++ m) := by
  unfold OwnB
  rw [List.length_append, List.map_append, ← hn]
  exact h
theorem sumE_walk (s : BitVec 32) : ∃ c0 c1 c2 c3 : UInt8, sumE s = [c0, c1, c2, c3] ∧ ((s.toNat : Int) / 16777216 = (c0.toNat : Int) ∧ (s.toNat : Int) / 65536 % 256 = (c1.toNat : Int) ∧ (s.toNat : Int) / 256 % 256 = (c2.toNat : Int) ∧ (s.toNat : Int) % 256 = (c3.toNat : Int)) := by
  have hs := s.isLt
  refine ⟨_, _, _, _, rfl, ?_, ?_, ?_, ?_⟩ <;> (rw [u8_nat (by omega)]; omega)
set_option maxRecDepth 100000 in
set_option maxHeartbeats 1000000 in
theorem oasum_any (base : Nat) (v : Value) (l : Bs) (s : BitVec 32) (w : World) (h : OwnB base w v l) (hb : base ≤ w.heap.size) (hl : l.length ≤ 70368744177000) :
    Calls Try.prog 26 #[v, .int .u32 (s.toNat : Int)] w (App base w v (l ++ sumE s)) := by
  obtain ⟨i0, hi, hz0, hz1, hz2⟩ := info_parts infoB
  obtain ⟨c0, c1, c2, c3, hE, h0, h1, h2, h3⟩ := sumE_walk s
  have HE := Lib.hid hE
  have HO := Lib.hid h
  have hsl := s.isLt
  clear hE h
  go_enter Try.func26, Try.ntmps26
  go_wp2_with (at_builtin; refine wpList_append_lies _ rfl _ _ _ rfl base 5 i0 _ 1 1 Try.underlying22 hi hz0 hz1 hz2 rfl (by omega) v l.length (l.map u8v) rfl (World.ownsRow.alloc HO.out _) ⟨w.heap.size, 0, none⟩ 4 4 [u8v c0, u8v c1, u8v c2, u8v c3] rfl rfl (World.news_of_block (cs := #[u8v c0, u8v c1, u8v c2, u8v c3]) (t := 5) (fr := (0, 0)) (heap_alloc_new w _)) (by simp [Value.oneCell', u8v]) (by omega) (by unfold maxLen; omega) (by omega) (by simp; omega) (w.heap.size + 1) (by simp) ?_; intro g1 cap1 w4 hown1 hgr1 hat1 hlt1)
  go_ret
  exact ⟨_, rfl, by rw [HE.out]; exact OwnB.more (m := [c0, c1, c2, c3]) hown1 rfl, ((Gr.refl _ _).alloc _).trans (Gr.of hgr1 (by simpa using hat1) rfl)⟩
end Go.Proofs.Ytlkaeonedijfpaa
