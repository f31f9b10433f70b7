/-
  The walk of the program's Valid.
-/
import Derived.Test.YtekfhgldebhigaaDoorCI
set_option linter.all false
namespace Go.Proofs.YtekfhgldebhigaaDoor
open Go.RowKit C
/-- A function's box stands. -/
def BF (f : Fc) (Af : Option Addr) (caf : Nat) (b : Nat) (V : World) : Prop := V.cell? ⟨b, 0, none⟩ = some (.string f.name) ∧ V.cell? ⟨b, 1, none⟩ = some (.int .i64 f.params) ∧ V.cell? ⟨b, 2, none⟩ = some (.int .i64 f.regs) ∧ V.cell? ⟨b, 3, none⟩ = some (.slice Af f.code.length caf)
theorem BF.new (f : Fc) (Af : Option Addr) (caf : Nat) (w : World) : BF f Af caf w.heap.size (w.alloc (.cells #[.string f.name, .int .i64 f.params, .int .i64 f.regs, .slice Af f.code.length caf] 37)) := by
  have h := heap_alloc_new w (.cells #[.string f.name, .int .i64 f.params, .int .i64 f.regs, .slice Af f.code.length caf] 37)
  refine ⟨?_, ?_, ?_, ?_⟩ <;> (rw [cell_of_row _ _ _ _ _ _ h]; rfl)
theorem BF.keep {f : Fc} {Af : Option Addr} {caf b : Nat} {V W : World} (h : BF f Af caf b V) (hb : Below V.heap.size V W) : BF f Af caf b W :=
  ⟨cell_bel h.1 hb, cell_bel h.2.1 hb, cell_bel h.2.2.1 hb, cell_bel h.2.2.2 hb⟩
theorem FnAt.ok {w : World} {f : Fc} {g o : Nat} (h : FnAt w f g o) : ∃ A cap, w.cell? ⟨g, o + 3, none⟩ = some (.slice A f.code.length cap) ∧ FvOk w f A cap := by
  obtain ⟨A, cap, h1, h2, h3, h4⟩ := h.row
  exact ⟨A, cap, h1, h4, ⟨h2, h3⟩, h.b1, h.b2⟩
theorem FvOk.small {w : World} {f : Fc} {A : Option Addr} {cap : Nat} (h : FvOk w f A cap) : ∀ x ∈ f.code, C.small x :=
  h.row.all (P := fun x : In => C.small x) fun x g o q => q.b2
theorem PgAt.small {w : World} {p : Pg} {A B D : Option Addr} {ca cb cd : Nat} (h : PgAt w p A B D ca cb cd) : ∀ f ∈ p.funcs, ∀ x ∈ f.code, C.small x :=
  h.fs.all (P := fun f : Fc => ∀ x ∈ f.code, C.small x) fun f g o q => by
    obtain ⟨A, cap, _, hv⟩ := q.ok
    exact hv.small
theorem fn_take {p : Pg} {k : Nat} (h : k < p.funcs.length) : (p.funcs.take (k + 1)).all (fnP p) = ((p.funcs.take k).all (fnP p) && fnP p p.funcs[k]) := by
  rw [List.take_succ_eq_append_getElem h, List.all_append]; simp
theorem fn_bad {p : Pg} {k : Nat} (h : k < p.funcs.length) (hb : fnP p p.funcs[k] = false) : validP p = false := by
  have : p.funcs.all (fnP p) = false := by
    rw [← Bool.not_eq_true, List.all_eq_true]
    intro a; have := a p.funcs[k] (List.getElem_mem h); rw [hb] at this; cases this
  unfold validP; rw [this, Bool.and_false]

set_option maxRecDepth 100000 in
set_option maxHeartbeats 8000000 in
theorem valid_any (p : Pg) (A B D : Option Addr) (ca cb cd : Nat) (w : World) (hp : PgAt w p A B D ca cb cd) :
    Calls Tryd.prog 11 #[pv p A B D ca cb cd] w fun e w' => e = .returned (.bool (validB p)) ∧ Below w.heap.size w w' := by
  have HE : Hid (validB p = validP p) := Lib.hid (validP_eq hp.small).symm
  have HP := Lib.hid hp
  have ml1 := hp.ka.2
  have ml2 := hp.kb.2
  have ml3 := hp.kd.2
  unfold maxLen at ml1 ml2 ml3
  clear hp
  by_cases l1 : p.funcs.length ≤ 64
  · by_cases l2 : p.globals.length ≤ 64
    · by_cases l3 : p.layouts.length ≤ 32
      · have d1 : decide ((64 : Int) < (p.funcs.length : Int)) = false := by simp; omega
        have d2 : decide ((64 : Int) < (p.globals.length : Int)) = false := by simp; omega
        have d3 : decide ((32 : Int) < (p.layouts.length : Int)) = false := by simp; omega
        have HA1 : Hid (∀ V, Hid (Below w.heap.size w V) → Calls Tryd.prog 29 #[pv p A B D ca cb cd] V fun e w' => e = .returned (.bool (namesP p)) ∧ Below V.heap.size V w') := Lib.hid fun V hV => hasNames_any p A B D ca cb cd V (HP.out.below hV.out) l1 l2
        have HA2 : Hid (∀ V, Hid (Below w.heap.size w V) → Calls Tryd.prog 30 #[pv p A B D ca cb cd] V fun e w' => e = .returned (.bool (kindsP p)) ∧ Below V.heap.size V w') := Lib.hid fun V hV => hasKinds_any p A B D ca cb cd V (HP.out.below hV.out) l2
        have HA3 : Hid (∀ V, Hid (Below w.heap.size w V) → Calls Tryd.prog 31 #[pv p A B D ca cb cd] V fun e w' => e = .returned (.bool (mainP p)) ∧ Below V.heap.size V w') := Lib.hid fun V hV => hasMain_any p A B D ca cb cd V (HP.out.below hV.out)
        go_enter Tryd.func11, Tryd.ntmps11
        by_cases a1 : namesP p = true
        · simp only [a1] at HA1
          by_cases a2 : kindsP p = true
          · simp only [a2] at HA2
            by_cases a3 : mainP p = true
            · simp only [a3] at HA3
              have HEQ : Hid (validP p = p.funcs.all (fnP p)) := Lib.hid (by unfold validP; rw [a1, a2, a3]; simp [l1, l2, l3])
              clear a1 a2 a3
              go_wp2_with fail
              refine (HA1.out _ (Lib.hid (below1 _ _))).mono ?_
              rintro e v1 ⟨rfl, hw1⟩
              have hv1 := Lib.hid (((below1 _ _) : Below w.heap.size w _).trans (hw1.mono (by simp)))
              have hb1 := Lib.hid ((B1.new p A B D ca cb cd w).keep hw1)
              obtain ⟨y00, y01, y02, y03, yb⟩ := hb1.out
              clear yb hw1
              go_wp2_with fail
              refine (HA2.out _ (Lib.hid (hv1.out))).mono ?_
              rintro e v2 ⟨rfl, hw2⟩
              have hv2 := Lib.hid (((hv1.out) : Below w.heap.size w _).trans (hw2.mono (hv1.out.size)))
              have hb2 := Lib.hid (hb1.out.keep hw2)
              obtain ⟨y00, y01, y02, y03, yb⟩ := hb2.out
              clear yb hw2
              go_wp2_with fail
              refine (HA3.out _ (Lib.hid (hv2.out))).mono ?_
              rintro e v3 ⟨rfl, hw3⟩
              have hv3 := Lib.hid (((hv2.out) : Below w.heap.size w _).trans (hw3.mono (hv2.out.size)))
              have hb3 := Lib.hid (hb2.out.keep hw3)
              obtain ⟨y00, y01, y02, y03, yb⟩ := hb3.out
              clear yb hw3
              go_wp2
              go_loopw [37] (fun i wr => ∃ k : Nat, k ≤ p.funcs.length ∧ i = .int .i64 k ∧ Hid ((p.funcs.take k).all (fnP p) = true) ∧ Hid (B1 p A B D ca cb cd w wr)) (fun i _ => p.funcs.length - (intOf i).toNat)
              case atStart => exact ⟨0, Nat.zero_le _, rfl, Lib.hid rfl, hb3⟩
              case round =>
                clear hb1 hb2 hb3 y00 y01 y02 y03 hv1 hv2 hv3
                obtain ⟨k, hk, rfl, hok, hb1⟩ := hrel
                by_cases hlt : k < p.funcs.length
                · obtain ⟨y00, y01, y02, y03, yb⟩ := hb1.out
                  obtain ⟨g, o, rfl, hh⟩ := HP.out.fs.at (by omega)
                  have hx := (hh k hlt).below yb
                  obtain ⟨f, hxe⟩ : ∃ f, p.funcs[k] = f := ⟨_, rfl⟩
                  rw [hxe] at hx
                  have q0 := hx.c0
                  have q1 := hx.c1
                  have q2 := hx.c2
                  obtain ⟨Af, caf, q3, hvv⟩ := hx.ok
                  have HV := Lib.hid hvv
                  have HPW := Lib.hid (HP.out.below yb)
                  have HX := Lib.hid hxe
                  have m0 : w.heap.size < wr.heap.size := by have := World.block_lt_of_cell? wr _ y00; simpa using this
                  have hbf0 := Lib.hid (BF.new f Af caf wr)
                  have HC1 : Hid (∀ V, Hid (Below wr.heap.size wr V) → Calls Tryd.prog 32 #[fv f Af caf] V fun e w' => e = .returned (.bool (sizesP f)) ∧ Below V.heap.size V w') := Lib.hid fun V hV => hasSizes_any f Af caf V (HV.out.below hV.out)
                  clear hx hxe hh hvv yb
                  by_cases s1 : sizesP f = true
                  · have hsz := s1
                    unfold sizesP at hsz
                    simp only [decide_eq_true_eq] at hsz
                    have z1000 := hsz.2.2.2.2
                    have z1 := hsz.2.2.2.1
                    have zr : 0 ≤ f.regs ∧ f.regs ≤ 64 := by omega
                    clear hsz
                    have HC2 : Hid (∀ V, Hid (Below wr.heap.size wr V) → Calls Tryd.prog 33 #[fv f Af caf] V fun e w' => e = .returned (.bool (endP f)) ∧ Below V.heap.size V w') := Lib.hid fun V hV => hasEnd_any f Af caf V (HV.out.below hV.out) (by omega)
                    have HC3 : Hid (∀ V, Hid (Below wr.heap.size wr V) → Calls Tryd.prog 34 #[fv f Af caf] V fun e w' => e = .returned (.bool (casesP f)) ∧ Below V.heap.size V w') := Lib.hid fun V hV => hasCases_any f Af caf V (HV.out.below hV.out) (by omega) z1000 HV.out.small
                    have HC4 : Hid (∀ V, Hid (Below wr.heap.size wr V) → Calls Tryd.prog 35 #[pv p (some ⟨g, o, none⟩) B D ca cb cd, fv f Af caf] V fun e w' => e = .returned (.bool (operandsP p f)) ∧ Below V.heap.size V w') := Lib.hid fun V hV => hasOperands_any p (some ⟨g, o, none⟩) B D ca cb cd f Af caf V (HPW.out.below hV.out) (HV.out.below hV.out) zr
                    simp only [s1] at HC1
                    by_cases s2 : endP f = true
                    · simp only [s2] at HC2
                      by_cases s3 : casesP f = true
                      · simp only [s3] at HC3
                        by_cases s4 : operandsP p f = true
                        · simp only [s4] at HC4
                          have HT : Hid ((p.funcs.take (k + 1)).all (fnP p) = true) := Lib.hid (by rw [fn_take hlt, hok.out, HX.out]; unfold fnP; rw [s1, s2, s3, s4]; rfl)
                          clear s1 s2 s3 s4
                          go_wp2_with fail
                          refine (HC1.out _ (Lib.hid (below1 _ _))).mono ?_
                          rintro e v1 ⟨rfl, hw1⟩
                          obtain ⟨z0, z1, z2, z3⟩ := hbf0.out.keep hw1
                          have hbf1 : BF f Af caf wr.heap.size v1 := ⟨z0, z1, z2, z3⟩
                          have hv1 : Below wr.heap.size wr v1 := ((below1 _ _) : Below wr.heap.size wr _).trans (hw1.mono (by simp))
                          obtain ⟨y00, y01, y02, y03, yb⟩ := hb1.out.keep hv1
                          clear yb hw1
                          have hbf1 := Lib.hid hbf1
                          have hv1 := Lib.hid hv1
                          go_wp2_with fail
                          refine (HC2.out _ hv1).mono ?_
                          rintro e v2 ⟨rfl, hw2⟩
                          obtain ⟨z0, z1, z2, z3⟩ := hbf1.out.keep hw2
                          have hbf2 : BF f Af caf wr.heap.size v2 := ⟨z0, z1, z2, z3⟩
                          have hv2 : Below wr.heap.size wr v2 := hv1.out.trans (hw2.mono hv1.out.size)
                          obtain ⟨y00, y01, y02, y03, yb⟩ := hb1.out.keep hv2
                          clear yb hw2
                          have hbf2 := Lib.hid hbf2
                          have hv2 := Lib.hid hv2
                          go_wp2_with fail
                          refine (HC3.out _ hv2).mono ?_
                          rintro e v3 ⟨rfl, hw3⟩
                          obtain ⟨z0, z1, z2, z3⟩ := hbf2.out.keep hw3
                          have hbf3 : BF f Af caf wr.heap.size v3 := ⟨z0, z1, z2, z3⟩
                          have hv3 : Below wr.heap.size wr v3 := hv2.out.trans (hw3.mono hv2.out.size)
                          obtain ⟨y00, y01, y02, y03, yb⟩ := hb1.out.keep hv3
                          clear yb hw3
                          have hbf3 := Lib.hid hbf3
                          have hv3 := Lib.hid hv3
                          go_wp2_with fail
                          refine (HC4.out _ hv3).mono ?_
                          rintro e v4 ⟨rfl, hw4⟩
                          obtain ⟨z0, z1, z2, z3⟩ := hbf3.out.keep hw4
                          have hbf4 : BF f Af caf wr.heap.size v4 := ⟨z0, z1, z2, z3⟩
                          have hv4 : Below wr.heap.size wr v4 := hv3.out.trans (hw4.mono hv3.out.size)
                          obtain ⟨y00, y01, y02, y03, yb⟩ := hb1.out.keep hv4
                          clear yb hw4
                          have hbf4 := Lib.hid hbf4
                          have hv4 := Lib.hid hv4
                          go_wp2
                          go_roundw
                          case rel => exact ⟨k + 1, by omega, by go_num, HT, Lib.hid (hb1.out.keep hv4.out)⟩
                          case measure => simp [intOf]; omega
                        · have ns4 : operandsP p f = false := by simpa using s4
                          simp only [ns4] at HC4
                          have HF : Hid (validP p = false) := Lib.hid (fn_bad hlt (by rw [HX.out]; unfold fnP; rw [ns4]; simp))
                          clear s1 s2 s3 ns4 s4
                          go_wp2_with fail
                          refine (HC1.out _ (Lib.hid (below1 _ _))).mono ?_
                          rintro e v1 ⟨rfl, hw1⟩
                          obtain ⟨z0, z1, z2, z3⟩ := hbf0.out.keep hw1
                          have hbf1 : BF f Af caf wr.heap.size v1 := ⟨z0, z1, z2, z3⟩
                          have hv1 : Below wr.heap.size wr v1 := ((below1 _ _) : Below wr.heap.size wr _).trans (hw1.mono (by simp))
                          obtain ⟨y00, y01, y02, y03, yb⟩ := hb1.out.keep hv1
                          clear yb hw1
                          have hbf1 := Lib.hid hbf1
                          have hv1 := Lib.hid hv1
                          go_wp2_with fail
                          refine (HC2.out _ hv1).mono ?_
                          rintro e v2 ⟨rfl, hw2⟩
                          obtain ⟨z0, z1, z2, z3⟩ := hbf1.out.keep hw2
                          have hbf2 : BF f Af caf wr.heap.size v2 := ⟨z0, z1, z2, z3⟩
                          have hv2 : Below wr.heap.size wr v2 := hv1.out.trans (hw2.mono hv1.out.size)
                          obtain ⟨y00, y01, y02, y03, yb⟩ := hb1.out.keep hv2
                          clear yb hw2
                          have hbf2 := Lib.hid hbf2
                          have hv2 := Lib.hid hv2
                          go_wp2_with fail
                          refine (HC3.out _ hv2).mono ?_
                          rintro e v3 ⟨rfl, hw3⟩
                          obtain ⟨z0, z1, z2, z3⟩ := hbf2.out.keep hw3
                          have hbf3 : BF f Af caf wr.heap.size v3 := ⟨z0, z1, z2, z3⟩
                          have hv3 : Below wr.heap.size wr v3 := hv2.out.trans (hw3.mono hv2.out.size)
                          obtain ⟨y00, y01, y02, y03, yb⟩ := hb1.out.keep hv3
                          clear yb hw3
                          have hbf3 := Lib.hid hbf3
                          have hv3 := Lib.hid hv3
                          go_wp2_with fail
                          refine (HC4.out _ hv3).mono ?_
                          rintro e v4 ⟨rfl, hw4⟩
                          obtain ⟨z0, z1, z2, z3⟩ := hbf3.out.keep hw4
                          have hbf4 : BF f Af caf wr.heap.size v4 := ⟨z0, z1, z2, z3⟩
                          have hv4 : Below wr.heap.size wr v4 := hv3.out.trans (hw4.mono hv3.out.size)
                          obtain ⟨y00, y01, y02, y03, yb⟩ := hb1.out.keep hv4
                          clear yb hw4
                          have hbf4 := Lib.hid hbf4
                          have hv4 := Lib.hid hv4
                          go_wp2
                          go_ret
                          exact ⟨retb (by rw [HE.out, HF.out]), hb1.out.bel.trans (hv4.out.mono hb1.out.bel.size)⟩
                      · have ns3 : casesP f = false := by simpa using s3
                        simp only [ns3] at HC3
                        have HF : Hid (validP p = false) := Lib.hid (fn_bad hlt (by rw [HX.out]; unfold fnP; rw [ns3]; simp))
                        clear s1 s2 ns3 s3
                        go_wp2_with fail
                        refine (HC1.out _ (Lib.hid (below1 _ _))).mono ?_
                        rintro e v1 ⟨rfl, hw1⟩
                        obtain ⟨z0, z1, z2, z3⟩ := hbf0.out.keep hw1
                        have hbf1 : BF f Af caf wr.heap.size v1 := ⟨z0, z1, z2, z3⟩
                        have hv1 : Below wr.heap.size wr v1 := ((below1 _ _) : Below wr.heap.size wr _).trans (hw1.mono (by simp))
                        obtain ⟨y00, y01, y02, y03, yb⟩ := hb1.out.keep hv1
                        clear yb hw1
                        have hbf1 := Lib.hid hbf1
                        have hv1 := Lib.hid hv1
                        go_wp2_with fail
                        refine (HC2.out _ hv1).mono ?_
                        rintro e v2 ⟨rfl, hw2⟩
                        obtain ⟨z0, z1, z2, z3⟩ := hbf1.out.keep hw2
                        have hbf2 : BF f Af caf wr.heap.size v2 := ⟨z0, z1, z2, z3⟩
                        have hv2 : Below wr.heap.size wr v2 := hv1.out.trans (hw2.mono hv1.out.size)
                        obtain ⟨y00, y01, y02, y03, yb⟩ := hb1.out.keep hv2
                        clear yb hw2
                        have hbf2 := Lib.hid hbf2
                        have hv2 := Lib.hid hv2
                        go_wp2_with fail
                        refine (HC3.out _ hv2).mono ?_
                        rintro e v3 ⟨rfl, hw3⟩
                        obtain ⟨z0, z1, z2, z3⟩ := hbf2.out.keep hw3
                        have hbf3 : BF f Af caf wr.heap.size v3 := ⟨z0, z1, z2, z3⟩
                        have hv3 : Below wr.heap.size wr v3 := hv2.out.trans (hw3.mono hv2.out.size)
                        obtain ⟨y00, y01, y02, y03, yb⟩ := hb1.out.keep hv3
                        clear yb hw3
                        have hbf3 := Lib.hid hbf3
                        have hv3 := Lib.hid hv3
                        go_wp2
                        go_ret
                        exact ⟨retb (by rw [HE.out, HF.out]), hb1.out.bel.trans (hv3.out.mono hb1.out.bel.size)⟩
                    · have ns2 : endP f = false := by simpa using s2
                      simp only [ns2] at HC2
                      have HF : Hid (validP p = false) := Lib.hid (fn_bad hlt (by rw [HX.out]; unfold fnP; rw [ns2]; simp))
                      clear s1 ns2 s2
                      go_wp2_with fail
                      refine (HC1.out _ (Lib.hid (below1 _ _))).mono ?_
                      rintro e v1 ⟨rfl, hw1⟩
                      obtain ⟨z0, z1, z2, z3⟩ := hbf0.out.keep hw1
                      have hbf1 : BF f Af caf wr.heap.size v1 := ⟨z0, z1, z2, z3⟩
                      have hv1 : Below wr.heap.size wr v1 := ((below1 _ _) : Below wr.heap.size wr _).trans (hw1.mono (by simp))
                      obtain ⟨y00, y01, y02, y03, yb⟩ := hb1.out.keep hv1
                      clear yb hw1
                      have hbf1 := Lib.hid hbf1
                      have hv1 := Lib.hid hv1
                      go_wp2_with fail
                      refine (HC2.out _ hv1).mono ?_
                      rintro e v2 ⟨rfl, hw2⟩
                      obtain ⟨z0, z1, z2, z3⟩ := hbf1.out.keep hw2
                      have hbf2 : BF f Af caf wr.heap.size v2 := ⟨z0, z1, z2, z3⟩
                      have hv2 : Below wr.heap.size wr v2 := hv1.out.trans (hw2.mono hv1.out.size)
                      obtain ⟨y00, y01, y02, y03, yb⟩ := hb1.out.keep hv2
                      clear yb hw2
                      have hbf2 := Lib.hid hbf2
                      have hv2 := Lib.hid hv2
                      go_wp2
                      go_ret
                      exact ⟨retb (by rw [HE.out, HF.out]), hb1.out.bel.trans (hv2.out.mono hb1.out.bel.size)⟩
                  · have ns1 : sizesP f = false := by simpa using s1
                    simp only [ns1] at HC1
                    have HF : Hid (validP p = false) := Lib.hid (fn_bad hlt (by rw [HX.out]; unfold fnP; rw [ns1]; simp))
                    clear  ns1 s1
                    go_wp2_with fail
                    refine (HC1.out _ (Lib.hid (below1 _ _))).mono ?_
                    rintro e v1 ⟨rfl, hw1⟩
                    obtain ⟨z0, z1, z2, z3⟩ := hbf0.out.keep hw1
                    have hbf1 : BF f Af caf wr.heap.size v1 := ⟨z0, z1, z2, z3⟩
                    have hv1 : Below wr.heap.size wr v1 := ((below1 _ _) : Below wr.heap.size wr _).trans (hw1.mono (by simp))
                    obtain ⟨y00, y01, y02, y03, yb⟩ := hb1.out.keep hv1
                    clear yb hw1
                    have hbf1 := Lib.hid hbf1
                    have hv1 := Lib.hid hv1
                    go_wp2
                    go_ret
                    exact ⟨retb (by rw [HE.out, HF.out]), hb1.out.bel.trans (hv1.out.mono hb1.out.bel.size)⟩
                · obtain rfl : k = p.funcs.length := by omega
                  have HF : Hid (validP p = true) := Lib.hid (by rw [HEQ.out, ← hok.out, List.take_length])
                  go_wp2
                  go_ret
                  exact ⟨retb (by rw [HE.out, HF.out]), hb1.out.bel⟩
            · have na3 : mainP p = false := by simpa using a3
              simp only [na3] at HA3
              have HF : Hid (validP p = false) := Lib.hid (by unfold validP; rw [na3]; simp)
              clear a1 a2 na3 a3
              go_wp2_with fail
              refine (HA1.out _ (Lib.hid (below1 _ _))).mono ?_
              rintro e v1 ⟨rfl, hw1⟩
              have hv1 := Lib.hid (((below1 _ _) : Below w.heap.size w _).trans (hw1.mono (by simp)))
              have hb1 := Lib.hid ((B1.new p A B D ca cb cd w).keep hw1)
              obtain ⟨y00, y01, y02, y03, yb⟩ := hb1.out
              clear yb hw1
              go_wp2_with fail
              refine (HA2.out _ (Lib.hid (hv1.out))).mono ?_
              rintro e v2 ⟨rfl, hw2⟩
              have hv2 := Lib.hid (((hv1.out) : Below w.heap.size w _).trans (hw2.mono (hv1.out.size)))
              have hb2 := Lib.hid (hb1.out.keep hw2)
              obtain ⟨y00, y01, y02, y03, yb⟩ := hb2.out
              clear yb hw2
              go_wp2_with fail
              refine (HA3.out _ (Lib.hid (hv2.out))).mono ?_
              rintro e v3 ⟨rfl, hw3⟩
              have hv3 := Lib.hid (((hv2.out) : Below w.heap.size w _).trans (hw3.mono (hv2.out.size)))
              have hb3 := Lib.hid (hb2.out.keep hw3)
              obtain ⟨y00, y01, y02, y03, yb⟩ := hb3.out
              clear yb hw3
              go_wp2
              go_ret
              exact ⟨retb (by rw [HE.out, HF.out]), hv3.out⟩
          · have na2 : kindsP p = false := by simpa using a2
            simp only [na2] at HA2
            have HF : Hid (validP p = false) := Lib.hid (by unfold validP; rw [na2]; simp)
            clear a1 na2 a2
            go_wp2_with fail
            refine (HA1.out _ (Lib.hid (below1 _ _))).mono ?_
            rintro e v1 ⟨rfl, hw1⟩
            have hv1 := Lib.hid (((below1 _ _) : Below w.heap.size w _).trans (hw1.mono (by simp)))
            have hb1 := Lib.hid ((B1.new p A B D ca cb cd w).keep hw1)
            obtain ⟨y00, y01, y02, y03, yb⟩ := hb1.out
            clear yb hw1
            go_wp2_with fail
            refine (HA2.out _ (Lib.hid (hv1.out))).mono ?_
            rintro e v2 ⟨rfl, hw2⟩
            have hv2 := Lib.hid (((hv1.out) : Below w.heap.size w _).trans (hw2.mono (hv1.out.size)))
            have hb2 := Lib.hid (hb1.out.keep hw2)
            obtain ⟨y00, y01, y02, y03, yb⟩ := hb2.out
            clear yb hw2
            go_wp2
            go_ret
            exact ⟨retb (by rw [HE.out, HF.out]), hv2.out⟩
        · have na1 : namesP p = false := by simpa using a1
          simp only [na1] at HA1
          have HF : Hid (validP p = false) := Lib.hid (by unfold validP; rw [na1]; simp)
          clear  na1 a1
          go_wp2_with fail
          refine (HA1.out _ (Lib.hid (below1 _ _))).mono ?_
          rintro e v1 ⟨rfl, hw1⟩
          have hv1 := Lib.hid (((below1 _ _) : Below w.heap.size w _).trans (hw1.mono (by simp)))
          have hb1 := Lib.hid ((B1.new p A B D ca cb cd w).keep hw1)
          obtain ⟨y00, y01, y02, y03, yb⟩ := hb1.out
          clear yb hw1
          go_wp2
          go_ret
          exact ⟨retb (by rw [HE.out, HF.out]), hv1.out⟩
      · have HF : Hid (validP p = false) := Lib.hid (by unfold validP; simp [l3])
        have d1 : decide ((64 : Int) < (p.funcs.length : Int)) = false := by simp; omega
        have d2 : decide ((64 : Int) < (p.globals.length : Int)) = false := by simp; omega
        have d3 : decide ((32 : Int) < (p.layouts.length : Int)) = true := by simp; omega
        clear l1 l2 l3
        go_enter Tryd.func11, Tryd.ntmps11
        go_wp2
        go_ret
        exact ⟨retb (by rw [HE.out, HF.out]), below1 _ _⟩
    · have HF : Hid (validP p = false) := Lib.hid (by unfold validP; simp [l2])
      have d1 : decide ((64 : Int) < (p.funcs.length : Int)) = false := by simp; omega
      have d2 : decide ((64 : Int) < (p.globals.length : Int)) = true := by simp; omega
      clear l1 l2
      go_enter Tryd.func11, Tryd.ntmps11
      go_wp2
      go_ret
      exact ⟨retb (by rw [HE.out, HF.out]), below1 _ _⟩
  · have HF : Hid (validP p = false) := Lib.hid (by unfold validP; simp [l1])
    have d1 : decide ((64 : Int) < (p.funcs.length : Int)) = true := by simp; omega
    clear l1
    go_enter Tryd.func11, Tryd.ntmps11
    go_wp2
    go_ret
    exact ⟨retb (by rw [HE.out, HF.out]), below1 _ _⟩
end Go.Proofs.YtekfhgldebhigaaDoor
