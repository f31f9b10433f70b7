/-
  The law CodeFollows.
-/
import Derived.Test.YtcjkhbggongcjaaLB
set_option linter.all false
namespace Go.Proofs.Ytcjkhbggongcjaa
open Go.RowKit C
theorem BF.drew {f : Fc} {Af : Option Addr} {caf : Nat} {b : Nat} {V : World} (h : BF f Af caf b V) : BF f Af caf b V.drew := h
theorem nextF_at {f : Fc} {j : Nat} (h : j < f.code.length) : nextF f j = nextI j f.code[j] := by
  unfold nextF
  rw [if_pos ⟨by omega, by simp only [C.len]; omega⟩]
  simp only [Int.toNat_natCast]
  rw [getDI h]
theorem nextI_len (pc : Nat) (x : In) : (nextI pc x).length ≤ 2 := by
  unfold nextI
  split
  · simp
  · split
    · simp
    · split
      · unfold ins; split
        · simp [ins]
        · split <;> simp
      · split <;> simp
theorem i64s3 {v : Int} (h : 0 ≤ v ∧ v ≤ 1000) : i64 v := by unfold i64; omega
set_option maxRecDepth 100000 in
set_option maxHeartbeats 16000000 in
theorem law_CodeFollows (p : Pg) (A B D : Option Addr) (ca cb cd : Nat) (w : World) (hp : PgAt w p A B D ca cb cd) : Calls Try.prog 8 #[pv p A B D ca cb cd] w fun e w' => e = .returned (.bool true) ∧ Below w.heap.size w w' := by
  have HN := Lib.hid (B1.new p A B D ca cb cd w)
  have HR : Hid (∀ V, Below w.heap.size w V → Calls Try.prog 12 #[pv p A B D ca cb cd] V fun e w' => e = .returned (.bool (validB p)) ∧ Below V.heap.size V w') := Lib.hid fun V hV => rvalid_any p A B D ca cb cd V (hp.below hV)
  have HW : Hid (∀ V, Calls Try.prog 10 #[] V fun e w' => e = .returned (.bool true) ∧ Below V.heap.size V w') := Lib.hid awake_any
  cases hb : validB p with
  | false =>
    simp only [hb] at HR
    clear hb hp
    go_enter Try.func8, Try.ntmps8
    go_wp2_with fail
    refine (HW.out _).mono ?_
    rintro e w1 ⟨rfl, hw1⟩
    have hb1 := Lib.hid (HN.out.keep hw1)
    obtain ⟨y00, y01, y02, y03, yb⟩ := hb1.out
    have HB1 := Lib.hid yb
    clear hw1 yb
    go_wp2_with fail
    refine (HR.out _ HB1.out).mono ?_
    rintro e w2 ⟨rfl, hw2⟩
    have hb2 := Lib.hid (hb1.out.keep hw2)
    clear y00 y01 y02 y03 hw2
    obtain ⟨y00, y01, y02, y03, yb⟩ := hb2.out
    have HB2 := Lib.hid yb
    clear yb
    go_wp2_with fail
    refine (HW.out _).mono ?_
    rintro e w3 ⟨rfl, hw3⟩
    go_wp2
    go_ret
    exact ⟨rfl, HB2.out.trans (hw3.mono HB2.out.size)⟩
  | true =>
    simp only [hb] at HR
    have HV := Lib.hid hb
    have HP := Lib.hid hp
    have hml := hp.ka.2
    unfold maxLen at hml
    clear hb hp
    go_enter Try.func8, Try.ntmps8
    go_wp2_with fail
    refine (HW.out _).mono ?_
    rintro e w1 ⟨rfl, hw1⟩
    have hb1 := Lib.hid (HN.out.keep hw1)
    obtain ⟨y00, y01, y02, y03, yb⟩ := hb1.out
    have HB1 := Lib.hid yb
    clear hw1 yb
    go_wp2_with fail
    refine (HR.out _ HB1.out).mono ?_
    rintro e w2 ⟨rfl, hw2⟩
    have hb2 := Lib.hid (hb1.out.keep hw2)
    clear y00 y01 y02 y03 hw2
    obtain ⟨y00, y01, y02, y03, yb⟩ := hb2.out
    have HB2 := Lib.hid yb
    clear yb
    go_wp2
    clear y00 y01 y02 y03
    go_loopw [3] (fun i wr => ∃ k : Nat, k ≤ p.funcs.length ∧ i = .int .i64 k ∧ Hid (B1 p A B D ca cb cd w wr)) (fun i _ => p.funcs.length - (intOf i).toNat)
    case atStart => exact ⟨0, Nat.zero_le _, rfl, hb2⟩
    case round =>
      clear hb1 hb2 HB1 HB2
      obtain ⟨k, hk, rfl, hbx⟩ := hrel
      obtain ⟨y00, y01, y02, y03, yb⟩ := hbx.out
      have HYB := Lib.hid yb
      clear yb
      by_cases hlt : k < p.funcs.length
      · obtain ⟨gA, oA, rfl, hA⟩ := HP.out.fs.at (by omega)
        have hfx := hA k hlt
        obtain ⟨f, hfe⟩ : ∃ f, p.funcs[k] = f := ⟨_, rfl⟩
        rw [hfe] at hfx
        have hfm : f ∈ p.funcs := hfe ▸ List.getElem_mem hlt
        have hfn := valid_fn HV.out hfm
        have h1000 := hfn.len.2
        have hlen0 := hfn.len.1
        obtain ⟨Af, caf, hq3, hvv⟩ := hfx.ok
        obtain ⟨gC, oC, rfl, hC⟩ := hvv.row.at hlen0
        have h50 : ∀ x ∈ f.code, x.op = 50 → 0 ≤ x.b ∧ x.b ≤ 8 := by
          intro x hx e
          obtain ⟨j, hj, rfl⟩ := List.mem_iff_getElem.1 hx
          have hi := (seq_at p _ _ 0 hfn.seq j hj).1
          obtain ⟨r0, r1, r2, er, _, _, hbb, _⟩ := instr_parts hi
          rw [e, show roles 50 = [100, 115, 98] by decide] at er
          simp only [List.cons.injEq] at er; obtain ⟨rfl, rfl, rfl, _⟩ := er
          simpa [operandB] using hbb
        have HNX : Hid (∀ j : Nat, j < f.code.length → ∀ V, Below w.heap.size w V → Calls Try.prog 25 #[fv f (some ⟨gC, oC, none⟩) caf, .int .i64 (j : Int)] V (RetOwn (nextF f j) V)) := Lib.hid fun j hj V hV => cnext_any f (some ⟨gC, oC, none⟩) caf j V (hvv.below hV) h1000 h50 (by unfold i64; omega)
        have HOK : Hid (∀ j (hj : j < f.code.length), (nextF f j = [] ↔ f.code[j].op = 30 ∨ f.code[j].op = 51) ∧ ∀ n ∈ nextF f j, 0 ≤ n ∧ ∃ h : n.toNat < f.code.length, ¬ f.code[n.toNat].op = 51) := Lib.hid fun j hj => by
          rw [nextF_at hj]; exact next_ok HV.out hfm hj
        have HLN : Hid (∀ j (hj : j < f.code.length), (nextF f j).length ≤ 2) := Lib.hid fun j hj => by rw [nextF_at hj]; exact nextI_len _ _
        have HCR := Lib.hid hC
        have hx0 := hfx.below HYB.out
        have q0 := hx0.c0
        have q1 := hx0.c1
        have q2 := hx0.c2
        have q3 := (bl_cell HYB.out hfx.lt).trans hq3
        have kk0 : (0 : Int) ≤ (k : Int) := by omega
        have kk1 : (k : Int) < (p.funcs.length : Int) := by omega
        have hbf0 := Lib.hid (BF.new f (some ⟨gC, oC, none⟩) caf wr)
        have m0 : w.heap.size < wr.heap.size := by have := World.block_lt_of_cell? wr _ y00; simpa using this
        have hb0 := Lib.hid (hbx.out.keep (below1 wr (.cells #[.string f.name, .int .i64 f.params, .int .i64 f.regs, .slice (some ⟨gC, oC, none⟩) f.code.length caf] 38)))
        clear hA hfx hx0 hfe hfm hfn hq3 hvv h50 hC
        obtain ⟨nb, hnb⟩ : ∃ nb, wr.heap.size = nb := ⟨_, rfl⟩
        have HNB := Lib.hid hnb
        go_wp2
        clear y00 y01 y02 y03 q0 q1 q2 q3
        rw [HNB.out] at hbf0
        (try simp only [HNB.out])
        go_loopw [5] (fun i V => ∃ j : Nat, j ≤ f.code.length ∧ i = .int .i64 j ∧ Hid (B1 p (some ⟨gA, oA, none⟩) B D ca cb cd w V) ∧ Hid (BF f (some ⟨gC, oC, none⟩) caf nb V)) (fun i _ => f.code.length - (intOf i).toNat)
        case atStart => exact ⟨0, Nat.zero_le _, rfl, hb0, hbf0⟩
        case round =>
          clear hbx HYB hb0 hbf0
          obtain ⟨j, hj, rfl, hbx, hbf⟩ := hrel
          obtain ⟨z0, z1, z2, z3⟩ := hbf.out
          have HYB := Lib.hid hbx.out.bel
          by_cases hjl : j < f.code.length
          · have HN2 := Lib.hid (HNX.out j hjl)
            have HO2 := Lib.hid (HOK.out j hjl)
            have hl2 := HLN.out j hjl
            obtain ⟨x, hxe⟩ : ∃ x, f.code[j] = x := ⟨_, rfl⟩
            obtain ⟨ln, hln⟩ : ∃ ln, nextF f j = ln := ⟨_, rfl⟩
            rw [hln] at HN2 hl2
            simp only [hln, hxe] at HO2
            have HX := Lib.hid hxe
            have jj0 : (0 : Int) ≤ (j : Int) := by omega
            have jj1 : (j : Int) < (f.code.length : Int) := by omega
            clear hln hxe
            go_wp2_with fail
            refine (HN2.out _ HYB.out).mono ?_
            rintro e w5 ⟨v, rfl, ho, hw5⟩
            have hbx5 := Lib.hid (hbx.out.keep hw5)
            have hbf5 := Lib.hid (hbf.out.keep hw5)
            clear z0 z1 z2 z3
            obtain ⟨z0, z1, z2, z3⟩ := hbf5.out
            have hc := (HCR.out j hjl).below hbx5.out.bel
            rw [HX.out] at hc
            have c0 := hc.c0
            obtain ⟨AN, cN, rfl, hcN, hrN, _⟩ := own_ints ho (fun n hn => by
              obtain ⟨n0, h1, _⟩ := HO2.out.2 n hn
              exact i64s3 (by omega))
            have HRN := Lib.hid hrN
            clear hc ho hrN hw5
            have hbx6 := hbx5
            have hbf6 := hbf5
            by_cases hemp : ln = []
            · have hop := HO2.out.1.1 hemp
              have e0 : ((ln.length : Int) == 0) = true := by simp [hemp]
              by_cases h30 : x.op = 30
              · have e1 : ((x.op : Int) == 30) = true := by simp [h30]
                clear hemp hop h30
                go_wp2
                clear z0 z1 z2 z3 c0
                go_loopw [8] (fun i V => ∃ t : Nat, t ≤ ln.length ∧ i = .int .i64 t ∧ Hid (Below w5.heap.size w5 V)) (fun i _ => ln.length - (intOf i).toNat)
                case atStart => exact ⟨0, Nat.zero_le _, rfl, Lib.hid (Below.refl _ _)⟩
                case round =>
                  obtain ⟨t, ht, rfl, hd⟩ := hrel
                  by_cases htl : t < ln.length
                  · obtain ⟨gN, oN, rfl, hN⟩ := HRN.out.at (by omega)
                    have a0 := ((hN t htl).below hd.out).c0
                    obtain ⟨y, hy⟩ : ∃ y, ln[t] = y := ⟨_, rfl⟩
                    rw [hy, Nat.mul_one] at a0
                    obtain ⟨y0, y1, y51⟩ := HO2.out.2 y (hy ▸ List.getElem_mem htl)
                    have hc := (HCR.out y.toNat y1).below (hbx6.out.keep hd.out).bel
                    obtain ⟨u, hu⟩ : ∃ u, f.code[y.toNat] = u := ⟨_, rfl⟩
                    rw [hu] at hc y51
                    have c0 := hc.c0
                    obtain ⟨z0, z1, z2, z3⟩ := hbf6.out.keep hd.out
                    have d0 : decide (y < 0) = false := by simp; omega
                    have d1 : decide ((f.code.length : Int) ≤ y) = false := by simp; omega
                    have d2 : ((u.op : Int) == 51) = false := by simp [y51]
                    have yk0 : 0 ≤ y := y0
                    have yk1 : y < (f.code.length : Int) := by omega
                    have tt0 : (0 : Int) ≤ (t : Int) := by omega
                    have tt1 : (t : Int) < (ln.length : Int) := by omega
                    clear hc hu hy hN y0
                    go_wp2_with fail
                    go_quiet (fail)
                    go_wp2
                    go_roundw
                    case rel => exact ⟨t + 1, by omega, by go_num, Lib.hid (bel_drewN hd.out _)⟩
                    case measure => simp [intOf]; omega
                  · obtain rfl : t = ln.length := by omega
                    obtain ⟨z0, z1, z2, z3⟩ := hbf6.out.keep hd.out
                    go_wp2
                    go_roundw
                    case rel => exact ⟨j + 1, by omega, by go_num, Lib.hid (hbx6.out.keep hd.out), Lib.hid (hbf6.out.keep hd.out)⟩
                    case measure => simp [intOf]; omega
              · have e1 : ((x.op : Int) == 30) = false := by simp [h30]
                have e2 : ((x.op : Int) == 51) = true := by simp; omega
                clear hemp hop h30
                go_wp2
                clear z0 z1 z2 z3 c0
                go_loopw [8] (fun i V => ∃ t : Nat, t ≤ ln.length ∧ i = .int .i64 t ∧ Hid (Below w5.heap.size w5 V)) (fun i _ => ln.length - (intOf i).toNat)
                case atStart => exact ⟨0, Nat.zero_le _, rfl, Lib.hid (Below.refl _ _)⟩
                case round =>
                  obtain ⟨t, ht, rfl, hd⟩ := hrel
                  by_cases htl : t < ln.length
                  · obtain ⟨gN, oN, rfl, hN⟩ := HRN.out.at (by omega)
                    have a0 := ((hN t htl).below hd.out).c0
                    obtain ⟨y, hy⟩ : ∃ y, ln[t] = y := ⟨_, rfl⟩
                    rw [hy, Nat.mul_one] at a0
                    obtain ⟨y0, y1, y51⟩ := HO2.out.2 y (hy ▸ List.getElem_mem htl)
                    have hc := (HCR.out y.toNat y1).below (hbx6.out.keep hd.out).bel
                    obtain ⟨u, hu⟩ : ∃ u, f.code[y.toNat] = u := ⟨_, rfl⟩
                    rw [hu] at hc y51
                    have c0 := hc.c0
                    obtain ⟨z0, z1, z2, z3⟩ := hbf6.out.keep hd.out
                    have d0 : decide (y < 0) = false := by simp; omega
                    have d1 : decide ((f.code.length : Int) ≤ y) = false := by simp; omega
                    have d2 : ((u.op : Int) == 51) = false := by simp [y51]
                    have yk0 : 0 ≤ y := y0
                    have yk1 : y < (f.code.length : Int) := by omega
                    have tt0 : (0 : Int) ≤ (t : Int) := by omega
                    have tt1 : (t : Int) < (ln.length : Int) := by omega
                    clear hc hu hy hN y0
                    go_wp2_with fail
                    go_quiet (fail)
                    go_wp2
                    go_roundw
                    case rel => exact ⟨t + 1, by omega, by go_num, Lib.hid (bel_drewN hd.out _)⟩
                    case measure => simp [intOf]; omega
                  · obtain rfl : t = ln.length := by omega
                    obtain ⟨z0, z1, z2, z3⟩ := hbf6.out.keep hd.out
                    go_wp2
                    go_roundw
                    case rel => exact ⟨j + 1, by omega, by go_num, Lib.hid (hbx6.out.keep hd.out), Lib.hid (hbf6.out.keep hd.out)⟩
                    case measure => simp [intOf]; omega
            · have hop : ¬ (x.op = 30 ∨ x.op = 51) := fun e => hemp (HO2.out.1.2 e)
              have e0 : ((ln.length : Int) == 0) = false := by simp [hemp]
              have e1 : ((x.op : Int) == 30) = false := by simp; omega
              have e2 : ((x.op : Int) == 51) = false := by simp; omega
              clear hemp hop
              go_wp2
              clear z0 z1 z2 z3 c0
              go_loopw [8] (fun i V => ∃ t : Nat, t ≤ ln.length ∧ i = .int .i64 t ∧ Hid (Below w5.heap.size w5 V)) (fun i _ => ln.length - (intOf i).toNat)
              case atStart => exact ⟨0, Nat.zero_le _, rfl, Lib.hid (Below.refl _ _)⟩
              case round =>
                obtain ⟨t, ht, rfl, hd⟩ := hrel
                by_cases htl : t < ln.length
                · obtain ⟨gN, oN, rfl, hN⟩ := HRN.out.at (by omega)
                  have a0 := ((hN t htl).below hd.out).c0
                  obtain ⟨y, hy⟩ : ∃ y, ln[t] = y := ⟨_, rfl⟩
                  rw [hy, Nat.mul_one] at a0
                  obtain ⟨y0, y1, y51⟩ := HO2.out.2 y (hy ▸ List.getElem_mem htl)
                  have hc := (HCR.out y.toNat y1).below (hbx6.out.keep hd.out).bel
                  obtain ⟨u, hu⟩ : ∃ u, f.code[y.toNat] = u := ⟨_, rfl⟩
                  rw [hu] at hc y51
                  have c0 := hc.c0
                  obtain ⟨z0, z1, z2, z3⟩ := hbf6.out.keep hd.out
                  have d0 : decide (y < 0) = false := by simp; omega
                  have d1 : decide ((f.code.length : Int) ≤ y) = false := by simp; omega
                  have d2 : ((u.op : Int) == 51) = false := by simp [y51]
                  have yk0 : 0 ≤ y := y0
                  have yk1 : y < (f.code.length : Int) := by omega
                  have tt0 : (0 : Int) ≤ (t : Int) := by omega
                  have tt1 : (t : Int) < (ln.length : Int) := by omega
                  clear hc hu hy hN y0
                  go_wp2_with fail
                  go_quiet (fail)
                  go_wp2
                  go_roundw
                  case rel => exact ⟨t + 1, by omega, by go_num, Lib.hid (bel_drewN hd.out _)⟩
                  case measure => simp [intOf]; omega
                · obtain rfl : t = ln.length := by omega
                  obtain ⟨z0, z1, z2, z3⟩ := hbf6.out.keep hd.out
                  go_wp2
                  go_roundw
                  case rel => exact ⟨j + 1, by omega, by go_num, Lib.hid (hbx6.out.keep hd.out), Lib.hid (hbf6.out.keep hd.out)⟩
                  case measure => simp [intOf]; omega
          · obtain rfl : j = f.code.length := by omega
            go_wp2
            go_roundw
            case rel => exact ⟨k + 1, by omega, by go_num, hbx⟩
            case measure => simp [intOf]; omega
      · obtain rfl : k = p.funcs.length := by omega
        go_wp2
        go_ret
        exact ⟨rfl, HYB.out⟩
end Go.Proofs.Ytcjkhbggongcjaa
