/-
  The walk of the specification's Uses.
-/
import Derived.Test.YtcjkhbggongcjaaRO
set_option linter.all false
namespace Go.Proofs.Ytcjkhbggongcjaa
open Go.RowKit C
/-- The boxes stand. -/
structure U4 (p : Pg) (A B D : Option Addr) (ca cb cd : Nat) (f : Fc) (Af : Option Addr) (caf : Nat) (x : In) (w V : World) : Prop where
  h0 : V.heap[w.heap.size]? = some (.cells #[.slice A p.funcs.length ca, .slice B p.globals.length cb, .slice D p.layouts.length cd, .int .i64 p.main] 26)
  h1 : V.heap[w.heap.size + 1]? = some (.cells #[.string f.name, .int .i64 f.params, .int .i64 f.regs, .slice Af f.code.length caf] 38)
  h2 : V.heap[w.heap.size + 2]? = some (.cells #[.int .i64 x.op, .int .i64 x.a, .int .i64 x.b, .int .i64 x.c, .int .i64 x.at'] 44)
  h3 : V.heap[w.heap.size + 3]? = some (.cells #[.int .i64 x.a, .int .i64 x.b, .int .i64 x.c] 63)
  bel : Below w.heap.size w V
theorem U4.keep {p : Pg} {A B D : Option Addr} {ca cb cd : Nat} {f : Fc} {Af : Option Addr} {caf : Nat} {x : In} {w V W : World} (h : U4 p A B D ca cb cd f Af caf x w V) (hb : Below V.heap.size V W) : U4 p A B D ca cb cd f Af caf x w W :=
  ⟨(hb.block _ (Array.getElem?_eq_some_iff.1 h.h0).1).trans h.h0, (hb.block _ (Array.getElem?_eq_some_iff.1 h.h1).1).trans h.h1, (hb.block _ (Array.getElem?_eq_some_iff.1 h.h2).1).trans h.h2, (hb.block _ (Array.getElem?_eq_some_iff.1 h.h3).1).trans h.h3, h.bel.trans (hb.mono h.bel.size)⟩
theorem up_split {a : Int} {k n : Nat} (h : k < n) : upFrom a n = upFrom a k ++ (a + (k : Int)) :: upFrom (a + (k : Int) + 1) (n - k - 1) := by
  have e : n = k + (n - k - 1 + 1) := by omega
  have h1 : ∀ (a : Int) (k m : Nat), upFrom a (k + m) = upFrom a k ++ upFrom (a + (k : Int)) m := by
    intro a k m
    unfold upFrom
    rw [List.range_add, List.map_append, List.map_map]
    congr 1
    apply List.map_congr_left
    intro i _
    simp; omega
  have h2 : ∀ (a : Int) (m : Nat), upFrom a (m + 1) = a :: upFrom (a + 1) m := by
    intro a m
    unfold upFrom
    rw [List.range_succ_eq_map, List.map_cons, List.map_map]
    simp
    intro i _
    omega
  conv => lhs; rw [e, h1, h2]
set_option maxRecDepth 100000 in
set_option maxHeartbeats 32000000 in
theorem ruses_any (p : Pg) (A B D : Option Addr) (ca cb cd : Nat) (fn pc : Int) (w : World) (hp : PgAt w p A B D ca cb cd) (hv : validB p = true) (bf : i64 fn) (bp : i64 pc) :
    Calls Try.prog 22 #[pv p A B D ca cb cd, .int .i64 fn, .int .i64 pc] w (RetOwn (usesF p fn pc) w) := by
  have HP := Lib.hid hp
  have m1 := hp.ka.2
  unfold maxLen at m1
  by_cases c1 : fn < 0
  · have d1 : decide (fn < 0) = true := by simpa using c1
    have HR : Hid (usesF p fn pc = []) := Lib.hid (by
      have hI : insF p fn pc = (zeroI, false) := by unfold insF; rw [if_neg (by omega)]
      unfold usesF; rw [hI]; rfl)
    clear hp
    go_enter Try.func22, Try.ntmps22
    go_wp2
    go_ret
    exact ⟨_, rfl, by rw [HR.out]; exact World.ownsRow_nil _ _ _ _, below1 _ _⟩
  · have d1 : decide (fn < 0) = false := by simpa using c1
    by_cases c2 : fn < (p.funcs.length : Int)
    · have d2 : decide ((p.funcs.length : Int) ≤ fn) = false := by simp; omega
      have h1 : fn.toNat < p.funcs.length := by omega
      obtain ⟨gA, oA, rfl, hA⟩ := HP.out.fs.at (by omega)
      have hfx := hA fn.toNat h1
      obtain ⟨f, hfe⟩ : ∃ f, p.funcs[fn.toNat] = f := ⟨_, rfl⟩
      rw [hfe] at hfx
      have hm : f ∈ p.funcs := hfe ▸ List.getElem_mem h1
      have hfn := valid_fn hv hm
      have hfd : p.funcs.getD fn.toNat default = f := by rw [getDF h1, hfe]
      have hfx1 := hfx.below (below1 w (.cells #[.slice (some ⟨gA, oA, none⟩) p.funcs.length ca, .slice B p.globals.length cb, .slice D p.layouts.length cd, .int .i64 p.main] 26))
      have q0 := hfx1.c0
      have q1 := hfx1.c1
      have q2 := hfx1.c2
      obtain ⟨Af, caf, q3', hvv⟩ := hfx.ok
      have q3 := (bl_cell (below1 w (.cells #[.slice (some ⟨gA, oA, none⟩) p.funcs.length ca, .slice B p.globals.length cb, .slice D p.layouts.length cd, .int .i64 p.main] 26)) hfx.lt).trans q3'
      have k0 : 0 ≤ fn := by omega
      have h1000 := hfn.len.2
      clear hfx1
      by_cases c3 : pc < 0
      · have d3 : decide (pc < 0) = true := by simpa using c3
        have HR : Hid (usesF p fn pc = []) := Lib.hid (by
      have hI : insF p fn pc = (zeroI, false) := by unfold insF; rw [if_neg (by omega)]
      unfold usesF; rw [hI]; rfl)
        clear hp hfx hvv q3' hA hm hfn hfd hfe
        go_enter Try.func22, Try.ntmps22
        go_wp2
        go_ret
        exact ⟨_, rfl, by rw [HR.out]; exact World.ownsRow_nil _ _ _ _, below1 _ _⟩
      · have d3 : decide (pc < 0) = false := by simpa using c3
        by_cases c4 : pc < (f.code.length : Int)
        · have d4 : decide ((f.code.length : Int) ≤ pc) = false := by simp; omega
          have h2 : pc.toNat < f.code.length := by omega
          obtain ⟨gC, oC, rfl, hC⟩ := hvv.row.at (by omega)
          have hx := hC pc.toNat h2
          obtain ⟨x, hxe⟩ : ∃ x, f.code[pc.toNat] = x := ⟨_, rfl⟩
          rw [hxe] at hx
          have hi := (seq_at p _ _ 0 hfn.seq _ h2).1
          rw [hxe] at hi
          have HS := smooth_of hv hm
          have HXI := Lib.hid hx
          have k1 : 0 ≤ pc := by omega
          obtain ⟨r0, r1, r2, hr⟩ : ∃ r0 r1 r2, roles x.op = [r0, r1, r2] := by obtain ⟨r0, r1, r2, er, _⟩ := instr_parts hi; exact ⟨r0, r1, r2, er⟩
          have HRo : Hid (∀ V, Calls Try.prog 50 #[.int .i64 x.op] V fun e w' => e = .returned (.string (txt [r0, r1, r2])) ∧ V = w') := Lib.hid fun V => by have := roles_any x.op V; rw [hr] at this; exact this
          obtain ⟨s, hs⟩ : ∃ s, txt [r0, r1, r2] = s := ⟨_, rfl⟩
          have s3 : s.size = 3 := by rw [← hs]; rfl
          have i0 : s[0].toNat = r0.toNat := by subst hs; rfl
          have i1 : s[1].toNat = r1.toNat := by subst hs; rfl
          have i2 : s[2].toNat = r2.toNat := by subst hs; rfl
          have n1 : ¬ s.toList = [] := by rw [ByteArray.toList_eq, ← hs]; simp [txt]
          have n2 : s.toList.isEmpty = false := by simp [n1]
          rw [hs] at HRo
          obtain ⟨t0, ht0⟩ : ∃ q, r0.toNat = q := ⟨_, rfl⟩
          rw [ht0] at i0
          obtain ⟨t1, ht1⟩ : ∃ q, r1.toNat = q := ⟨_, rfl⟩
          rw [ht1] at i1
          obtain ⟨t2, ht2⟩ : ∃ q, r2.toNat = q := ⟨_, rfl⟩
          rw [ht2] at i2
          have HT0 := Lib.hid ht0
          have HT1 := Lib.hid ht1
          have HT2 := Lib.hid ht2
          clear ht0 ht1 ht2 hs
          have c0 : (0 : Int) < (s.size : Int) := by omega
          have c1' : (1 : Int) < (s.size : Int) := by omega
          have c2' : (2 : Int) < (s.size : Int) := by omega
          by_cases h51 : x.op = 51
          · have d5 : ((x.op : Int) == 51) = true := by simp [h51]
            have HR : Hid (usesF p fn pc = []) := Lib.hid (by
              have hI : insF p fn pc = (zeroI, false) := by unfold insF; rw [hfd, getDI h2, hxe, if_neg (by intro h; exact h.2.2.2.2 h51)]
              unfold usesF; rw [hI]; rfl)
            clear hp hvv hA hm hfn hfd hfe h51 hi HS hr hxe hC
            have hx0 := hx.below (below2 w (.cells #[.slice (some ⟨gA, oA, none⟩) p.funcs.length ca, .slice B p.globals.length cb, .slice D p.layouts.length cd, .int .i64 p.main] 26) (.cells #[.string f.name, .int .i64 f.params, .int .i64 f.regs, .slice (some ⟨gC, oC, none⟩) f.code.length caf] 38))
            have z0 := hx0.c0
            have z1 := hx0.c1
            have z2 := hx0.c2
            have z3 := hx0.c3
            have z4 := hx0.c4
            clear hx hx0 hfx q3'
            go_enter Try.func22, Try.ntmps22
            go_wp2_with (go_at_call 50; (with_reducible refine (HRo.out _).mono ?_); rintro e w2 ⟨rfl, rfl⟩)
            go_ret
            exact ⟨_, rfl, by rw [HR.out]; exact World.ownsRow_nil _ _ _ _, below3 _ _ _ _⟩
          · have d5 : ((x.op : Int) == 51) = false := by simp [h51]
            obtain ⟨S0, hS0'⟩ : ∃ S, C.rd (r0, x.a) = S := ⟨_, rfl⟩
            obtain ⟨S1, hS1'⟩ : ∃ S, C.rd (r1, x.b) = S := ⟨_, rfl⟩
            obtain ⟨S2, hS2'⟩ : ∃ S, C.rd (r2, x.c) = S := ⟨_, rfl⟩
            have hS0 := Lib.hid hS0'
            have hS1 := Lib.hid hS1'
            have hS2 := Lib.hid hS2'
            obtain ⟨M, hM⟩ : ∃ M : List Int, more p f pc.toNat x = M := ⟨_, rfl⟩
            obtain ⟨T, hT'⟩ : ∃ T, S0 ++ S1 ++ S2 ++ M = T := ⟨_, rfl⟩
            have HT := Lib.hid hT'
            have hTT : ((rolesOf x).map rd).flatten = S0 ++ S1 ++ S2 := by
              unfold rolesOf; rw [hr, ← hS0', ← hS1', ← hS2']; simp
            have HTO : Hid (TOk T) := Lib.hid (by
              have e : T = ((rolesOf x).map rd).flatten ++ more p f pc.toNat x := by rw [hTT, ← hT', hM]
              refine tok_below (fun n hn => ?_) ?_
              · have := uses_below hv hm (pc := pc.toNat) h2
                rw [hxe] at this
                have hn2 : n ∈ usesI p f pc.toNat x := by
                  unfold usesI; rw [if_neg (by rw [hr]; simp [h51]), insAll_mem]; exact .inr (by rw [← e]; exact hn)
                have := this.2 n hn2
                have := hfn.par
                omega
              · have hml := more_len (pc := pc.toNat) HS hi
                rw [hM] at hml
                rw [← hT']
                have a0 : S0.length ≤ 1 := by rw [← hS0']; exact rd_len _
                have a1 : S1.length ≤ 1 := by rw [← hS1']; exact rd_len _
                have a2 : S2.length ≤ 1 := by rw [← hS2']; exact rd_len _
                simp only [List.length_append]; omega)
            have HRES : Hid (usesF p fn pc = insAll [] T) := Lib.hid (by
              have hI : insF p fn pc = (x, true) := by
                unfold insF
                rw [hfd, getDI h2, hxe, if_pos ⟨k0, by simp only [C.len]; omega, k1, by simp only [C.len]; omega, h51⟩]
              unfold usesF
              rw [hI, if_pos rfl, hfd]
              unfold usesI; rw [if_neg (by rw [hr]; simp [h51]), hTT, hM, ← hT'])
            have HMore := Lib.hid hM
            have hfn64 := Lib.hid hfn.par
            have HIN := Lib.hid hi
            have HSM := Lib.hid HS
            have HMEM := Lib.hid hm
            have HFNK := Lib.hid hfn
            have HXE := Lib.hid hxe
            have HV := Lib.hid hv
            have hx0 := hx.below (below2 w (.cells #[.slice (some ⟨gA, oA, none⟩) p.funcs.length ca, .slice B p.globals.length cb, .slice D p.layouts.length cd, .int .i64 p.main] 26) (.cells #[.string f.name, .int .i64 f.params, .int .i64 f.regs, .slice (some ⟨gC, oC, none⟩) f.code.length caf] 38))
            have z0 := hx0.c0
            have z1 := hx0.c1
            have z2 := hx0.c2
            have z3 := hx0.c3
            have z4 := hx0.c4
            have hh4 := heap4 w (.cells #[.slice (some ⟨gA, oA, none⟩) p.funcs.length ca, .slice B p.globals.length cb, .slice D p.layouts.length cd, .int .i64 p.main] 26) (.cells #[.string f.name, .int .i64 f.params, .int .i64 f.regs, .slice (some ⟨gC, oC, none⟩) f.code.length caf] 38) (.cells #[.int .i64 x.op, .int .i64 x.a, .int .i64 x.b, .int .i64 x.c, .int .i64 x.at'] 44) (.cells #[.int .i64 x.a, .int .i64 x.b, .int .i64 x.c] 63)
            have hu0 := Lib.hid (⟨hh4.2.2.1, hh4.1, hh4.2.2.2, hh4.2.1, below4 _ _ _ _ _⟩ : U4 p (some ⟨gA, oA, none⟩) B D ca cb cd f (some ⟨gC, oC, none⟩) caf x w ((((w.alloc (.cells #[.slice (some ⟨gA, oA, none⟩) p.funcs.length ca, .slice B p.globals.length cb, .slice D p.layouts.length cd, .int .i64 p.main] 26)).alloc (.cells #[.string f.name, .int .i64 f.params, .int .i64 f.regs, .slice (some ⟨gC, oC, none⟩) f.code.length caf] 38)).alloc (.cells #[.int .i64 x.op, .int .i64 x.a, .int .i64 x.b, .int .i64 x.c, .int .i64 x.at'] 44)).alloc (.cells #[.int .i64 x.a, .int .i64 x.b, .int .i64 x.c] 63)))
            have HCR := Lib.hid hC
            have HAA := Lib.hid hA
            clear hp hfx hvv q3' hA hm hfn hfd hfe h51 hi HS hr hxe hC hx hx0 hTT hT' hS0' hS1' hS2' hM hh4 hv
            go_enter Try.func22, Try.ntmps22
            go_wp2_with (go_at_call 50; (with_reducible refine (HRo.out _).mono ?_); rintro e w2 ⟨rfl, rfl⟩)
            clear z0 z1 z2 z3 z4 q0 q1 q2 q3
            go_loopw [7, 12] (fun v i wr => ∃ (k : Nat) (K : Int), K = (k : Int) ∧ k ≤ 3 ∧ i = .int .i64 K ∧ Hid (Owns (w.heap.size + 4) wr v (insAll [] (LL S0 S1 S2 k))) ∧ Hid (U4 p (some ⟨gA, oA, none⟩) B D ca cb cd f (some ⟨gC, oC, none⟩) caf x w wr)) (fun _ i _ => 3 - (intOf i).toNat)
            case atStart => exact ⟨0, 0, rfl, by omega, rfl, Lib.hid (World.ownsRow_nil _ _ _ _), hu0⟩
            case round =>
              clear hu0
              obtain ⟨k, K, hK, hk, rfl, ho, hu⟩ := hrel
              have hsz : w.heap.size + 4 ≤ wr.heap.size := by have := (Array.getElem?_eq_some_iff.1 hu.out.h3).1; omega
              have hv3 := hu.out.h3
              have y0 : wr.cell? ⟨w.heap.size + 3, 0, none⟩ = some (.int .i64 x.a) := by simp [World.cell?, hv3]
              have y1 : wr.cell? ⟨w.heap.size + 3, 1, none⟩ = some (.int .i64 x.b) := by simp [World.cell?, hv3]
              have y2 : wr.cell? ⟨w.heap.size + 3, 2, none⟩ = some (.int .i64 x.c) := by simp [World.cell?, hv3]
              clear hv3
              by_cases hk0 : k = 0
              · subst hk0
                obtain rfl : K = 0 := by simpa using hK
                clear hK
                obtain ⟨acc, hacc'⟩ : ∃ acc, LL S0 S1 S2 0 = acc := ⟨_, rfl⟩
                rw [hacc'] at ho
                have hacc := Lib.hid hacc'
                clear hacc'
                have HACC : Hid (LL S0 S1 S2 1 = acc ++ S0) := Lib.hid (by rw [← hacc.out]; simp [LL])
                by_cases e : r0 = 114
                · obtain rfl : t0 = 114 := by rw [← HT0.out, e]; rfl
                  have hSk : S0 = [x.a] := by rw [← hS0.out]; unfold C.rd; simp [e]
                  have HW := Lib.hid (with_step (T := T) (d := acc) (r := S1 ++ S2 ++ M) (n := x.a) (by rw [← hacc.out, ← HT.out]; simp [LL, hSk]) HTO.out.len HTO.out.i (w.heap.size + 4) u7 wr (by omega) ho.out)
                  have HN2 : Hid (acc ++ [x.a] = LL S0 S1 S2 1) := Lib.hid (by rw [HACC.out, hSk])
                  clear hSk e
                  go_wp2_with fail
                  refine HW.out.mono ?_
                  rintro e w5 ⟨v5, rfl, ho5, hw5⟩
                  go_wp2
                  go_roundw
                  case rel => exact ⟨1, 1, rfl, by omega, by first | rfl | go_num, Lib.hid (by rw [← HN2.out]; exact ho5), Lib.hid (hu.out.keep hw5)⟩
                  case measure => simp [intOf]
                by_cases e2 : r0 = 82
                · by_cases hv0 : 0 ≤ x.a
                  · have e := e2
                    have dv : decide (0 ≤ x.a) = true := by simpa using hv0
                    obtain rfl : t0 = 82 := by rw [← HT0.out, e]; rfl
                    have hSk : S0 = [x.a] := by rw [← hS0.out]; unfold C.rd; simp [e, hv0]
                    have HW := Lib.hid (with_step (T := T) (d := acc) (r := S1 ++ S2 ++ M) (n := x.a) (by rw [← hacc.out, ← HT.out]; simp [LL, hSk]) HTO.out.len HTO.out.i (w.heap.size + 4) u7 wr (by omega) ho.out)
                    have HN2 : Hid (acc ++ [x.a] = LL S0 S1 S2 1) := Lib.hid (by rw [HACC.out, hSk])
                    clear hSk e
                    go_wp2_with fail
                    refine HW.out.mono ?_
                    rintro e w5 ⟨v5, rfl, ho5, hw5⟩
                    go_wp2
                    go_roundw
                    case rel => exact ⟨1, 1, rfl, by omega, by first | rfl | go_num, Lib.hid (by rw [← HN2.out]; exact ho5), Lib.hid (hu.out.keep hw5)⟩
                    case measure => simp [intOf]
                  · have dv : decide (0 ≤ x.a) = false := by simpa using hv0
                    obtain rfl : t0 = 82 := by rw [← HT0.out, e2]; rfl
                    have hSk : S0 = [] := by rw [← hS0.out]; unfold C.rd; simp [e2, hv0]; (try omega)
                    clear e e2
                    have HN2 : Hid (acc = LL S0 S1 S2 1) := Lib.hid (by rw [HACC.out, hSk, List.append_nil])
                    clear hSk
                    go_wp2
                    go_roundw
                    case rel => exact ⟨1, 1, rfl, by omega, by first | rfl | go_num, Lib.hid (by rw [← HN2.out]; exact ho.out), hu⟩
                    case measure => simp [intOf]
                have hSk : S0 = [] := by rw [← hS0.out]; unfold C.rd; simp [e, e2]
                have g1 : ((t0 : Int) == 114) = false := by have := HT0.out; simp; intro h; exact e (UInt8.toNat_inj.1 (by rw [this]; show _ = (_ : Nat); simp; omega))
                have g2 : ((t0 : Int) == 82) = false := by have := HT0.out; simp; intro h; exact e2 (UInt8.toNat_inj.1 (by rw [this]; show _ = (_ : Nat); simp; omega))
                clear e e2
                have HN2 : Hid (acc = LL S0 S1 S2 1) := Lib.hid (by rw [HACC.out, hSk, List.append_nil])
                clear hSk
                go_wp2
                go_roundw
                case rel => exact ⟨1, 1, rfl, by omega, by first | rfl | go_num, Lib.hid (by rw [← HN2.out]; exact ho.out), hu⟩
                case measure => simp [intOf]
              by_cases hk1 : k = 1
              · subst hk1
                obtain rfl : K = 1 := by simpa using hK
                clear hK
                obtain ⟨acc, hacc'⟩ : ∃ acc, LL S0 S1 S2 1 = acc := ⟨_, rfl⟩
                rw [hacc'] at ho
                have hacc := Lib.hid hacc'
                clear hacc'
                have HACC : Hid (LL S0 S1 S2 2 = acc ++ S1) := Lib.hid (by rw [← hacc.out]; simp [LL])
                by_cases e : r1 = 114
                · obtain rfl : t1 = 114 := by rw [← HT1.out, e]; rfl
                  have hSk : S1 = [x.b] := by rw [← hS1.out]; unfold C.rd; simp [e]
                  have HW := Lib.hid (with_step (T := T) (d := acc) (r := S2 ++ M) (n := x.b) (by rw [← hacc.out, ← HT.out]; simp [LL, hSk]) HTO.out.len HTO.out.i (w.heap.size + 4) u7 wr (by omega) ho.out)
                  have HN2 : Hid (acc ++ [x.b] = LL S0 S1 S2 2) := Lib.hid (by rw [HACC.out, hSk])
                  clear hSk e
                  go_wp2_with fail
                  refine HW.out.mono ?_
                  rintro e w5 ⟨v5, rfl, ho5, hw5⟩
                  go_wp2
                  go_roundw
                  case rel => exact ⟨2, 2, rfl, by omega, by first | rfl | go_num, Lib.hid (by rw [← HN2.out]; exact ho5), Lib.hid (hu.out.keep hw5)⟩
                  case measure => simp [intOf]
                by_cases e2 : r1 = 82
                · by_cases hv0 : 0 ≤ x.b
                  · have e := e2
                    have dv : decide (0 ≤ x.b) = true := by simpa using hv0
                    obtain rfl : t1 = 82 := by rw [← HT1.out, e]; rfl
                    have hSk : S1 = [x.b] := by rw [← hS1.out]; unfold C.rd; simp [e, hv0]
                    have HW := Lib.hid (with_step (T := T) (d := acc) (r := S2 ++ M) (n := x.b) (by rw [← hacc.out, ← HT.out]; simp [LL, hSk]) HTO.out.len HTO.out.i (w.heap.size + 4) u7 wr (by omega) ho.out)
                    have HN2 : Hid (acc ++ [x.b] = LL S0 S1 S2 2) := Lib.hid (by rw [HACC.out, hSk])
                    clear hSk e
                    go_wp2_with fail
                    refine HW.out.mono ?_
                    rintro e w5 ⟨v5, rfl, ho5, hw5⟩
                    go_wp2
                    go_roundw
                    case rel => exact ⟨2, 2, rfl, by omega, by first | rfl | go_num, Lib.hid (by rw [← HN2.out]; exact ho5), Lib.hid (hu.out.keep hw5)⟩
                    case measure => simp [intOf]
                  · have dv : decide (0 ≤ x.b) = false := by simpa using hv0
                    obtain rfl : t1 = 82 := by rw [← HT1.out, e2]; rfl
                    have hSk : S1 = [] := by rw [← hS1.out]; unfold C.rd; simp [e2, hv0]; (try omega)
                    clear e e2
                    have HN2 : Hid (acc = LL S0 S1 S2 2) := Lib.hid (by rw [HACC.out, hSk, List.append_nil])
                    clear hSk
                    go_wp2
                    go_roundw
                    case rel => exact ⟨2, 2, rfl, by omega, by first | rfl | go_num, Lib.hid (by rw [← HN2.out]; exact ho.out), hu⟩
                    case measure => simp [intOf]
                have hSk : S1 = [] := by rw [← hS1.out]; unfold C.rd; simp [e, e2]
                have g1 : ((t1 : Int) == 114) = false := by have := HT1.out; simp; intro h; exact e (UInt8.toNat_inj.1 (by rw [this]; show _ = (_ : Nat); simp; omega))
                have g2 : ((t1 : Int) == 82) = false := by have := HT1.out; simp; intro h; exact e2 (UInt8.toNat_inj.1 (by rw [this]; show _ = (_ : Nat); simp; omega))
                clear e e2
                have HN2 : Hid (acc = LL S0 S1 S2 2) := Lib.hid (by rw [HACC.out, hSk, List.append_nil])
                clear hSk
                go_wp2
                go_roundw
                case rel => exact ⟨2, 2, rfl, by omega, by first | rfl | go_num, Lib.hid (by rw [← HN2.out]; exact ho.out), hu⟩
                case measure => simp [intOf]
              by_cases hk2 : k = 2
              · subst hk2
                obtain rfl : K = 2 := by simpa using hK
                clear hK
                obtain ⟨acc, hacc'⟩ : ∃ acc, LL S0 S1 S2 2 = acc := ⟨_, rfl⟩
                rw [hacc'] at ho
                have hacc := Lib.hid hacc'
                clear hacc'
                have HACC : Hid (LL S0 S1 S2 3 = acc ++ S2) := Lib.hid (by rw [← hacc.out]; simp [LL])
                by_cases e : r2 = 114
                · obtain rfl : t2 = 114 := by rw [← HT2.out, e]; rfl
                  have hSk : S2 = [x.c] := by rw [← hS2.out]; unfold C.rd; simp [e]
                  have HW := Lib.hid (with_step (T := T) (d := acc) (r := M) (n := x.c) (by rw [← hacc.out, ← HT.out]; simp [LL, hSk]) HTO.out.len HTO.out.i (w.heap.size + 4) u7 wr (by omega) ho.out)
                  have HN2 : Hid (acc ++ [x.c] = LL S0 S1 S2 3) := Lib.hid (by rw [HACC.out, hSk])
                  clear hSk e
                  go_wp2_with fail
                  refine HW.out.mono ?_
                  rintro e w5 ⟨v5, rfl, ho5, hw5⟩
                  go_wp2
                  go_roundw
                  case rel => exact ⟨3, 3, rfl, by omega, by first | rfl | go_num, Lib.hid (by rw [← HN2.out]; exact ho5), Lib.hid (hu.out.keep hw5)⟩
                  case measure => simp [intOf]
                by_cases e2 : r2 = 82
                · by_cases hv0 : 0 ≤ x.c
                  · have e := e2
                    have dv : decide (0 ≤ x.c) = true := by simpa using hv0
                    obtain rfl : t2 = 82 := by rw [← HT2.out, e]; rfl
                    have hSk : S2 = [x.c] := by rw [← hS2.out]; unfold C.rd; simp [e, hv0]
                    have HW := Lib.hid (with_step (T := T) (d := acc) (r := M) (n := x.c) (by rw [← hacc.out, ← HT.out]; simp [LL, hSk]) HTO.out.len HTO.out.i (w.heap.size + 4) u7 wr (by omega) ho.out)
                    have HN2 : Hid (acc ++ [x.c] = LL S0 S1 S2 3) := Lib.hid (by rw [HACC.out, hSk])
                    clear hSk e
                    go_wp2_with fail
                    refine HW.out.mono ?_
                    rintro e w5 ⟨v5, rfl, ho5, hw5⟩
                    go_wp2
                    go_roundw
                    case rel => exact ⟨3, 3, rfl, by omega, by first | rfl | go_num, Lib.hid (by rw [← HN2.out]; exact ho5), Lib.hid (hu.out.keep hw5)⟩
                    case measure => simp [intOf]
                  · have dv : decide (0 ≤ x.c) = false := by simpa using hv0
                    obtain rfl : t2 = 82 := by rw [← HT2.out, e2]; rfl
                    have hSk : S2 = [] := by rw [← hS2.out]; unfold C.rd; simp [e2, hv0]; (try omega)
                    clear e e2
                    have HN2 : Hid (acc = LL S0 S1 S2 3) := Lib.hid (by rw [HACC.out, hSk, List.append_nil])
                    clear hSk
                    go_wp2
                    go_roundw
                    case rel => exact ⟨3, 3, rfl, by omega, by first | rfl | go_num, Lib.hid (by rw [← HN2.out]; exact ho.out), hu⟩
                    case measure => simp [intOf]
                have hSk : S2 = [] := by rw [← hS2.out]; unfold C.rd; simp [e, e2]
                have g1 : ((t2 : Int) == 114) = false := by have := HT2.out; simp; intro h; exact e (UInt8.toNat_inj.1 (by rw [this]; show _ = (_ : Nat); simp; omega))
                have g2 : ((t2 : Int) == 82) = false := by have := HT2.out; simp; intro h; exact e2 (UInt8.toNat_inj.1 (by rw [this]; show _ = (_ : Nat); simp; omega))
                clear e e2
                have HN2 : Hid (acc = LL S0 S1 S2 3) := Lib.hid (by rw [HACC.out, hSk, List.append_nil])
                clear hSk
                go_wp2
                go_roundw
                case rel => exact ⟨3, 3, rfl, by omega, by first | rfl | go_num, Lib.hid (by rw [← HN2.out]; exact ho.out), hu⟩
                case measure => simp [intOf]
              obtain rfl : k = 3 := by omega
              obtain rfl : K = 3 := by simpa using hK
              clear hK
              clear y0 y1 y2
              have ho3 : Hid (Owns (w.heap.size + 4) wr u7 (insAll [] (S0 ++ S1 ++ S2))) := ho
              clear ho
              obtain ⟨S, hS⟩ : ∃ S, S0 ++ S1 ++ S2 = S := ⟨_, rfl⟩
              rw [hS] at HT ho3
              by_cases h : x.op = 26
              · have e26 : ((x.op : Int) == 26) = true := by simp [h]
                have e28 : ((x.op : Int) == 28) = false := by simp [h]
                have e31 : ((x.op : Int) == 31) = false := by simp [h]
                have e24 : ((x.op : Int) == 24) = false := by simp [h]
                have e25 : ((x.op : Int) == 25) = false := by simp [h]
                have e38 : ((x.op : Int) == 38) = false := by simp [h]
                have e50 : ((x.op : Int) == 50) = false := by simp [h]
                have hi := HIN.out
                obtain ⟨p0, p1, p2, er, _, _, hb, hc, _⟩ := instr_parts hi
                rw [h, show roles 26 = [68, 102, 97] by decide] at er
                simp only [List.cons.injEq] at er; obtain ⟨rfl, rfl, rfl, _⟩ := er
                simp [operandB, C.len] at hb hc
                have hpar := HSM.out.par x.b hb.1 (by simp only [C.len]; omega)
                have hfb : x.b.toNat < p.funcs.length := by omega
                have hfr := HAA.out x.b.toNat hfb
                have hgd : p.funcs.getD x.b.toNat default = p.funcs[x.b.toNat] := getDF hfb
                rw [hgd] at hpar
                have hcc : 0 ≤ x.c ∧ x.c ≤ 64 := by
                  have := hfn64.out; have hw := wrap_sub HSM.out.reg hpar
                  simp only [List.getD_eq_getElem?_getD, ] at hgd
                  rw [hgd] at hb
                  omega
                obtain ⟨fb, hfbe⟩ : ∃ fb, p.funcs[x.b.toNat] = fb := ⟨_, rfl⟩
                rw [hfbe] at hpar hfr hgd
                obtain ⟨np, hnp⟩ := Int.eq_ofNat_of_zero_le hpar.1
                have HM2 : Hid (M = upFrom x.c np) := Lib.hid (by
                  rw [← HMore.out]; unfold more; rw [if_pos (by omega), if_pos ⟨hb.1, by simp only [C.len]; omega⟩, hgd, hnp]; rfl)
                have HFR := Lib.hid hfr
                have hb0 := hb.1
                have hb1 : x.b < (p.funcs.length : Int) := by omega
                have np64 : np ≤ 64 := by omega
                have db0 : decide (0 ≤ x.b) = true := by simpa using hb0
                have db1 : decide (x.b < (p.funcs.length : Int)) = true := by simpa using hb1
                have HNP := Lib.hid hnp
                clear hi hb hc hpar hfr hgd hfbe h hnp
                have hx2 := hu.out.h2
                have a0 : wr.cell? ⟨w.heap.size + 2, 0, none⟩ = some (.int .i64 x.op) := by simp [World.cell?, hx2]
                have a1 : wr.cell? ⟨w.heap.size + 2, 1, none⟩ = some (.int .i64 x.a) := by simp [World.cell?, hx2]
                have a2 : wr.cell? ⟨w.heap.size + 2, 2, none⟩ = some (.int .i64 x.b) := by simp [World.cell?, hx2]
                have a3 : wr.cell? ⟨w.heap.size + 2, 3, none⟩ = some (.int .i64 x.c) := by simp [World.cell?, hx2]
                have a4 : wr.cell? ⟨w.heap.size + 2, 4, none⟩ = some (.int .i64 x.at') := by simp [World.cell?, hx2]
                clear hx2
                go_wp2
                clear a0 a1 a2 a3 a4
                go_loopw [7, 13] (fun v i V => ∃ k : Nat, k ≤ np ∧ i = .int .i64 k ∧ Hid (Owns (w.heap.size + 4) V v (insAll [] (S ++ upFrom x.c k))) ∧ Hid (U4 p (some ⟨gA, oA, none⟩) B D ca cb cd f (some ⟨gC, oC, none⟩) caf x w V)) (fun _ i _ => np - (intOf i).toNat)
                case atStart => exact ⟨0, by omega, rfl, by simpa [upFrom] using ho3, hu⟩
                case round =>
                  clear ho3 hu hsz
                  obtain ⟨k, hk, rfl, ho, hu⟩ := hrel
                  have hsz : w.heap.size + 4 ≤ wr.heap.size := by have := (Array.getElem?_eq_some_iff.1 hu.out.h3).1; omega
                  have hx2 := hu.out.h2
                  have a0 : wr.cell? ⟨w.heap.size + 2, 0, none⟩ = some (.int .i64 x.op) := by simp [World.cell?, hx2]
                  have a1 : wr.cell? ⟨w.heap.size + 2, 1, none⟩ = some (.int .i64 x.a) := by simp [World.cell?, hx2]
                  have a2 : wr.cell? ⟨w.heap.size + 2, 2, none⟩ = some (.int .i64 x.b) := by simp [World.cell?, hx2]
                  have a3 : wr.cell? ⟨w.heap.size + 2, 3, none⟩ = some (.int .i64 x.c) := by simp [World.cell?, hx2]
                  have a4 : wr.cell? ⟨w.heap.size + 2, 4, none⟩ = some (.int .i64 x.at') := by simp [World.cell?, hx2]
                  clear hx2
                  have hp2 := hu.out.h0
                  have b0 : wr.cell? ⟨w.heap.size, 0, none⟩ = some (.slice (some ⟨gA, oA, none⟩) p.funcs.length ca) := by simp [World.cell?, hp2]
                  have b1 : wr.cell? ⟨w.heap.size, 1, none⟩ = some (.slice B p.globals.length cb) := by simp [World.cell?, hp2]
                  have b2 : wr.cell? ⟨w.heap.size, 2, none⟩ = some (.slice D p.layouts.length cd) := by simp [World.cell?, hp2]
                  have b3 : wr.cell? ⟨w.heap.size, 3, none⟩ = some (.int .i64 p.main) := by simp [World.cell?, hp2]
                  clear hp2
                  have z1 := (HFR.out.below hu.out.bel).c1
                  rw [HNP.out] at z1
                  by_cases hlt : k < np
                  · have dk : decide (k < np) = true := by simpa using hlt
                    have dk2 : decide ((k : Int) < (np : Int)) = true := by simp; omega
                    have HW := Lib.hid (with_step (T := T) (d := S ++ upFrom x.c k) (r := upFrom (x.c + (k : Int) + 1) (np - k - 1)) (n := x.c + (k : Int)) (by rw [← HT.out, HM2.out, List.append_assoc]; congr 1; exact up_split hlt) HTO.out.len HTO.out.i (w.heap.size + 4) _ wr (by omega) ho.out)
                    have HN2 : Hid (S ++ upFrom x.c k ++ [x.c + (k : Int)] = S ++ upFrom x.c (k + 1)) := Lib.hid (by rw [up_succ, List.append_assoc])
                    go_wp2_with fail
                    refine HW.out.mono ?_
                    rintro e w5 ⟨v5, rfl, ho5, hw5⟩
                    go_wp2
                    go_roundw
                    case rel => exact ⟨k + 1, by omega, by go_num, Lib.hid (by rw [← HN2.out]; exact ho5), Lib.hid (hu.out.keep hw5)⟩
                    case measure => simp [intOf]; omega
                  · obtain rfl : k = np := by omega
                    have dk : decide (k < k) = false := by simp
                    have HE : Hid (insAll [] T = insAll [] (S ++ upFrom x.c k)) := Lib.hid (by rw [← HT.out, HM2.out])
                    go_wp2
                    go_ret
                    exact ⟨_, rfl, by rw [HRES.out, HE.out]; exact own_weak ho.out (by omega), hu.out.bel⟩
              by_cases h : x.op = 28
              · have e26 : ((x.op : Int) == 26) = false := by simp [h]
                have e28 : ((x.op : Int) == 28) = true := by simp [h]
                have e31 : ((x.op : Int) == 31) = false := by simp [h]
                have e24 : ((x.op : Int) == 24) = false := by simp [h]
                have e25 : ((x.op : Int) == 25) = false := by simp [h]
                have e38 : ((x.op : Int) == 38) = false := by simp [h]
                have e50 : ((x.op : Int) == 50) = false := by simp [h]
                have hi := HIN.out
                obtain ⟨p0, p1, p2, er, _, _, hb, hc, _⟩ := instr_parts hi
                rw [h, show roles 28 = [45, 102, 97] by decide] at er
                simp only [List.cons.injEq] at er; obtain ⟨rfl, rfl, rfl, _⟩ := er
                simp [operandB, C.len] at hb hc
                have hpar := HSM.out.par x.b hb.1 (by simp only [C.len]; omega)
                have hfb : x.b.toNat < p.funcs.length := by omega
                have hfr := HAA.out x.b.toNat hfb
                have hgd : p.funcs.getD x.b.toNat default = p.funcs[x.b.toNat] := getDF hfb
                rw [hgd] at hpar
                have hcc : 0 ≤ x.c ∧ x.c ≤ 64 := by
                  have := hfn64.out; have hw := wrap_sub HSM.out.reg hpar
                  simp only [List.getD_eq_getElem?_getD, ] at hgd
                  rw [hgd] at hb
                  omega
                obtain ⟨fb, hfbe⟩ : ∃ fb, p.funcs[x.b.toNat] = fb := ⟨_, rfl⟩
                rw [hfbe] at hpar hfr hgd
                obtain ⟨np, hnp⟩ := Int.eq_ofNat_of_zero_le hpar.1
                have HM2 : Hid (M = upFrom x.c np) := Lib.hid (by
                  rw [← HMore.out]; unfold more; rw [if_pos (by omega), if_pos ⟨hb.1, by simp only [C.len]; omega⟩, hgd, hnp]; rfl)
                have HFR := Lib.hid hfr
                have hb0 := hb.1
                have hb1 : x.b < (p.funcs.length : Int) := by omega
                have np64 : np ≤ 64 := by omega
                have db0 : decide (0 ≤ x.b) = true := by simpa using hb0
                have db1 : decide (x.b < (p.funcs.length : Int)) = true := by simpa using hb1
                have HNP := Lib.hid hnp
                clear hi hb hc hpar hfr hgd hfbe h hnp
                have hx2 := hu.out.h2
                have a0 : wr.cell? ⟨w.heap.size + 2, 0, none⟩ = some (.int .i64 x.op) := by simp [World.cell?, hx2]
                have a1 : wr.cell? ⟨w.heap.size + 2, 1, none⟩ = some (.int .i64 x.a) := by simp [World.cell?, hx2]
                have a2 : wr.cell? ⟨w.heap.size + 2, 2, none⟩ = some (.int .i64 x.b) := by simp [World.cell?, hx2]
                have a3 : wr.cell? ⟨w.heap.size + 2, 3, none⟩ = some (.int .i64 x.c) := by simp [World.cell?, hx2]
                have a4 : wr.cell? ⟨w.heap.size + 2, 4, none⟩ = some (.int .i64 x.at') := by simp [World.cell?, hx2]
                clear hx2
                go_wp2
                clear a0 a1 a2 a3 a4
                go_loopw [7, 13] (fun v i V => ∃ k : Nat, k ≤ np ∧ i = .int .i64 k ∧ Hid (Owns (w.heap.size + 4) V v (insAll [] (S ++ upFrom x.c k))) ∧ Hid (U4 p (some ⟨gA, oA, none⟩) B D ca cb cd f (some ⟨gC, oC, none⟩) caf x w V)) (fun _ i _ => np - (intOf i).toNat)
                case atStart => exact ⟨0, by omega, rfl, by simpa [upFrom] using ho3, hu⟩
                case round =>
                  clear ho3 hu hsz
                  obtain ⟨k, hk, rfl, ho, hu⟩ := hrel
                  have hsz : w.heap.size + 4 ≤ wr.heap.size := by have := (Array.getElem?_eq_some_iff.1 hu.out.h3).1; omega
                  have hx2 := hu.out.h2
                  have a0 : wr.cell? ⟨w.heap.size + 2, 0, none⟩ = some (.int .i64 x.op) := by simp [World.cell?, hx2]
                  have a1 : wr.cell? ⟨w.heap.size + 2, 1, none⟩ = some (.int .i64 x.a) := by simp [World.cell?, hx2]
                  have a2 : wr.cell? ⟨w.heap.size + 2, 2, none⟩ = some (.int .i64 x.b) := by simp [World.cell?, hx2]
                  have a3 : wr.cell? ⟨w.heap.size + 2, 3, none⟩ = some (.int .i64 x.c) := by simp [World.cell?, hx2]
                  have a4 : wr.cell? ⟨w.heap.size + 2, 4, none⟩ = some (.int .i64 x.at') := by simp [World.cell?, hx2]
                  clear hx2
                  have hp2 := hu.out.h0
                  have b0 : wr.cell? ⟨w.heap.size, 0, none⟩ = some (.slice (some ⟨gA, oA, none⟩) p.funcs.length ca) := by simp [World.cell?, hp2]
                  have b1 : wr.cell? ⟨w.heap.size, 1, none⟩ = some (.slice B p.globals.length cb) := by simp [World.cell?, hp2]
                  have b2 : wr.cell? ⟨w.heap.size, 2, none⟩ = some (.slice D p.layouts.length cd) := by simp [World.cell?, hp2]
                  have b3 : wr.cell? ⟨w.heap.size, 3, none⟩ = some (.int .i64 p.main) := by simp [World.cell?, hp2]
                  clear hp2
                  have z1 := (HFR.out.below hu.out.bel).c1
                  rw [HNP.out] at z1
                  by_cases hlt : k < np
                  · have dk : decide (k < np) = true := by simpa using hlt
                    have dk2 : decide ((k : Int) < (np : Int)) = true := by simp; omega
                    have HW := Lib.hid (with_step (T := T) (d := S ++ upFrom x.c k) (r := upFrom (x.c + (k : Int) + 1) (np - k - 1)) (n := x.c + (k : Int)) (by rw [← HT.out, HM2.out, List.append_assoc]; congr 1; exact up_split hlt) HTO.out.len HTO.out.i (w.heap.size + 4) _ wr (by omega) ho.out)
                    have HN2 : Hid (S ++ upFrom x.c k ++ [x.c + (k : Int)] = S ++ upFrom x.c (k + 1)) := Lib.hid (by rw [up_succ, List.append_assoc])
                    go_wp2_with fail
                    refine HW.out.mono ?_
                    rintro e w5 ⟨v5, rfl, ho5, hw5⟩
                    go_wp2
                    go_roundw
                    case rel => exact ⟨k + 1, by omega, by go_num, Lib.hid (by rw [← HN2.out]; exact ho5), Lib.hid (hu.out.keep hw5)⟩
                    case measure => simp [intOf]; omega
                  · obtain rfl : k = np := by omega
                    have dk : decide (k < k) = false := by simp
                    have HE : Hid (insAll [] T = insAll [] (S ++ upFrom x.c k)) := Lib.hid (by rw [← HT.out, HM2.out])
                    go_wp2
                    go_ret
                    exact ⟨_, rfl, by rw [HRES.out, HE.out]; exact own_weak ho.out (by omega), hu.out.bel⟩
              by_cases h : x.op = 31
              · have e26 : ((x.op : Int) == 26) = false := by simp [h]
                have e28 : ((x.op : Int) == 28) = false := by simp [h]
                have e31 : ((x.op : Int) == 31) = true := by simp [h]
                have e24 : ((x.op : Int) == 24) = false := by simp [h]
                have e25 : ((x.op : Int) == 25) = false := by simp [h]
                have e38 : ((x.op : Int) == 38) = false := by simp [h]
                have e50 : ((x.op : Int) == 50) = false := by simp [h]
                have hi := HIN.out
                obtain ⟨p0, p1, p2, er, _, _, hb, hc, _⟩ := instr_parts hi
                rw [h, show roles 31 = [45, 102, 97] by decide] at er
                simp only [List.cons.injEq] at er; obtain ⟨rfl, rfl, rfl, _⟩ := er
                simp [operandB, C.len] at hb hc
                have hpar := HSM.out.par x.b hb.1 (by simp only [C.len]; omega)
                have hfb : x.b.toNat < p.funcs.length := by omega
                have hfr := HAA.out x.b.toNat hfb
                have hgd : p.funcs.getD x.b.toNat default = p.funcs[x.b.toNat] := getDF hfb
                rw [hgd] at hpar
                have hcc : 0 ≤ x.c ∧ x.c ≤ 64 := by
                  have := hfn64.out; have hw := wrap_sub HSM.out.reg hpar
                  simp only [List.getD_eq_getElem?_getD, ] at hgd
                  rw [hgd] at hb
                  omega
                obtain ⟨fb, hfbe⟩ : ∃ fb, p.funcs[x.b.toNat] = fb := ⟨_, rfl⟩
                rw [hfbe] at hpar hfr hgd
                obtain ⟨np, hnp⟩ := Int.eq_ofNat_of_zero_le hpar.1
                have HM2 : Hid (M = upFrom x.c np) := Lib.hid (by
                  rw [← HMore.out]; unfold more; rw [if_pos (by omega), if_pos ⟨hb.1, by simp only [C.len]; omega⟩, hgd, hnp]; rfl)
                have HFR := Lib.hid hfr
                have hb0 := hb.1
                have hb1 : x.b < (p.funcs.length : Int) := by omega
                have np64 : np ≤ 64 := by omega
                have db0 : decide (0 ≤ x.b) = true := by simpa using hb0
                have db1 : decide (x.b < (p.funcs.length : Int)) = true := by simpa using hb1
                have HNP := Lib.hid hnp
                clear hi hb hc hpar hfr hgd hfbe h hnp
                have hx2 := hu.out.h2
                have a0 : wr.cell? ⟨w.heap.size + 2, 0, none⟩ = some (.int .i64 x.op) := by simp [World.cell?, hx2]
                have a1 : wr.cell? ⟨w.heap.size + 2, 1, none⟩ = some (.int .i64 x.a) := by simp [World.cell?, hx2]
                have a2 : wr.cell? ⟨w.heap.size + 2, 2, none⟩ = some (.int .i64 x.b) := by simp [World.cell?, hx2]
                have a3 : wr.cell? ⟨w.heap.size + 2, 3, none⟩ = some (.int .i64 x.c) := by simp [World.cell?, hx2]
                have a4 : wr.cell? ⟨w.heap.size + 2, 4, none⟩ = some (.int .i64 x.at') := by simp [World.cell?, hx2]
                clear hx2
                go_wp2
                clear a0 a1 a2 a3 a4
                go_loopw [7, 13] (fun v i V => ∃ k : Nat, k ≤ np ∧ i = .int .i64 k ∧ Hid (Owns (w.heap.size + 4) V v (insAll [] (S ++ upFrom x.c k))) ∧ Hid (U4 p (some ⟨gA, oA, none⟩) B D ca cb cd f (some ⟨gC, oC, none⟩) caf x w V)) (fun _ i _ => np - (intOf i).toNat)
                case atStart => exact ⟨0, by omega, rfl, by simpa [upFrom] using ho3, hu⟩
                case round =>
                  clear ho3 hu hsz
                  obtain ⟨k, hk, rfl, ho, hu⟩ := hrel
                  have hsz : w.heap.size + 4 ≤ wr.heap.size := by have := (Array.getElem?_eq_some_iff.1 hu.out.h3).1; omega
                  have hx2 := hu.out.h2
                  have a0 : wr.cell? ⟨w.heap.size + 2, 0, none⟩ = some (.int .i64 x.op) := by simp [World.cell?, hx2]
                  have a1 : wr.cell? ⟨w.heap.size + 2, 1, none⟩ = some (.int .i64 x.a) := by simp [World.cell?, hx2]
                  have a2 : wr.cell? ⟨w.heap.size + 2, 2, none⟩ = some (.int .i64 x.b) := by simp [World.cell?, hx2]
                  have a3 : wr.cell? ⟨w.heap.size + 2, 3, none⟩ = some (.int .i64 x.c) := by simp [World.cell?, hx2]
                  have a4 : wr.cell? ⟨w.heap.size + 2, 4, none⟩ = some (.int .i64 x.at') := by simp [World.cell?, hx2]
                  clear hx2
                  have hp2 := hu.out.h0
                  have b0 : wr.cell? ⟨w.heap.size, 0, none⟩ = some (.slice (some ⟨gA, oA, none⟩) p.funcs.length ca) := by simp [World.cell?, hp2]
                  have b1 : wr.cell? ⟨w.heap.size, 1, none⟩ = some (.slice B p.globals.length cb) := by simp [World.cell?, hp2]
                  have b2 : wr.cell? ⟨w.heap.size, 2, none⟩ = some (.slice D p.layouts.length cd) := by simp [World.cell?, hp2]
                  have b3 : wr.cell? ⟨w.heap.size, 3, none⟩ = some (.int .i64 p.main) := by simp [World.cell?, hp2]
                  clear hp2
                  have z1 := (HFR.out.below hu.out.bel).c1
                  rw [HNP.out] at z1
                  by_cases hlt : k < np
                  · have dk : decide (k < np) = true := by simpa using hlt
                    have dk2 : decide ((k : Int) < (np : Int)) = true := by simp; omega
                    have HW := Lib.hid (with_step (T := T) (d := S ++ upFrom x.c k) (r := upFrom (x.c + (k : Int) + 1) (np - k - 1)) (n := x.c + (k : Int)) (by rw [← HT.out, HM2.out, List.append_assoc]; congr 1; exact up_split hlt) HTO.out.len HTO.out.i (w.heap.size + 4) _ wr (by omega) ho.out)
                    have HN2 : Hid (S ++ upFrom x.c k ++ [x.c + (k : Int)] = S ++ upFrom x.c (k + 1)) := Lib.hid (by rw [up_succ, List.append_assoc])
                    go_wp2_with fail
                    refine HW.out.mono ?_
                    rintro e w5 ⟨v5, rfl, ho5, hw5⟩
                    go_wp2
                    go_roundw
                    case rel => exact ⟨k + 1, by omega, by go_num, Lib.hid (by rw [← HN2.out]; exact ho5), Lib.hid (hu.out.keep hw5)⟩
                    case measure => simp [intOf]; omega
                  · obtain rfl : k = np := by omega
                    have dk : decide (k < k) = false := by simp
                    have HE : Hid (insAll [] T = insAll [] (S ++ upFrom x.c k)) := Lib.hid (by rw [← HT.out, HM2.out])
                    go_wp2
                    go_ret
                    exact ⟨_, rfl, by rw [HRES.out, HE.out]; exact own_weak ho.out (by omega), hu.out.bel⟩
              by_cases h : x.op = 24
              · have e26 : ((x.op : Int) == 26) = false := by simp [h]
                have e28 : ((x.op : Int) == 28) = false := by simp [h]
                have e31 : ((x.op : Int) == 31) = false := by simp [h]
                have e24 : ((x.op : Int) == 24) = true := by simp [h]
                have e25 : ((x.op : Int) == 25) = false := by simp [h]
                have e38 : ((x.op : Int) == 38) = false := by simp [h]
                have e50 : ((x.op : Int) == 50) = false := by simp [h]
                have hi := HIN.out
                obtain ⟨p0, p1, p2, er, _, ha, hb, hc, h24, _⟩ := instr_parts hi
                have h24' := h24 h
                rw [h, show roles 24 = [100, 49, 110] by decide] at er
                simp only [List.cons.injEq] at er; obtain ⟨rfl, rfl, rfl, _⟩ := er
                simp [operandB, C.len] at ha hc
                have hreg := HSM.out.reg
                obtain ⟨np, hnp⟩ := Int.eq_ofNat_of_zero_le hc.1
                have HM2 : Hid (M = upFrom (x.a + 1) np) := Lib.hid (by
                  rw [← HMore.out]; unfold more; rw [if_neg (by omega), if_pos h, hnp]; rfl)
                have ha0 : 0 ≤ x.a ∧ x.a ≤ 64 := by omega
                have np64 : np ≤ 64 := by omega
                have HNP := Lib.hid hnp
                clear hi hb hc ha h24 h24' hreg h hnp
                have hx2 := hu.out.h2
                have a0 : wr.cell? ⟨w.heap.size + 2, 0, none⟩ = some (.int .i64 x.op) := by simp [World.cell?, hx2]
                have a1 : wr.cell? ⟨w.heap.size + 2, 1, none⟩ = some (.int .i64 x.a) := by simp [World.cell?, hx2]
                have a2 : wr.cell? ⟨w.heap.size + 2, 2, none⟩ = some (.int .i64 x.b) := by simp [World.cell?, hx2]
                have a3 : wr.cell? ⟨w.heap.size + 2, 3, none⟩ = some (.int .i64 x.c) := by simp [World.cell?, hx2]
                have a4 : wr.cell? ⟨w.heap.size + 2, 4, none⟩ = some (.int .i64 x.at') := by simp [World.cell?, hx2]
                clear hx2
                go_wp2
                clear a0 a1 a2 a3 a4
                go_loopw [7, 14] (fun v i V => ∃ k : Nat, k ≤ np ∧ i = .int .i64 ((k : Int) + 1) ∧ Hid (Owns (w.heap.size + 4) V v (insAll [] (S ++ upFrom (x.a + 1) k))) ∧ Hid (U4 p (some ⟨gA, oA, none⟩) B D ca cb cd f (some ⟨gC, oC, none⟩) caf x w V)) (fun _ i _ => np + 1 - (intOf i).toNat)
                case atStart => exact ⟨0, by omega, rfl, by simpa [upFrom] using ho3, hu⟩
                case round =>
                  clear ho3 hu hsz
                  obtain ⟨k, hk, rfl, ho, hu⟩ := hrel
                  have hsz : w.heap.size + 4 ≤ wr.heap.size := by have := (Array.getElem?_eq_some_iff.1 hu.out.h3).1; omega
                  have hx2 := hu.out.h2
                  have a0 : wr.cell? ⟨w.heap.size + 2, 0, none⟩ = some (.int .i64 x.op) := by simp [World.cell?, hx2]
                  have a1 : wr.cell? ⟨w.heap.size + 2, 1, none⟩ = some (.int .i64 x.a) := by simp [World.cell?, hx2]
                  have a2 : wr.cell? ⟨w.heap.size + 2, 2, none⟩ = some (.int .i64 x.b) := by simp [World.cell?, hx2]
                  have a3 : wr.cell? ⟨w.heap.size + 2, 3, none⟩ = some (.int .i64 x.c) := by simp [World.cell?, hx2]
                  have a4 : wr.cell? ⟨w.heap.size + 2, 4, none⟩ = some (.int .i64 x.at') := by simp [World.cell?, hx2]
                  clear hx2
                  rw [HNP.out] at a3
                  by_cases hlt : k < np
                  · have dk : decide ((k : Int) + 1 ≤ (np : Int)) = true := by simp; omega
                    have HW := Lib.hid (with_step (T := T) (d := S ++ upFrom (x.a + 1) k) (r := upFrom (x.a + 1 + (k : Int) + 1) (np - k - 1)) (n := x.a + ((k : Int) + 1)) (by rw [← HT.out, HM2.out, List.append_assoc, show x.a + ((k : Int) + 1) = x.a + 1 + (k : Int) by omega]; congr 1; exact up_split hlt) HTO.out.len HTO.out.i (w.heap.size + 4) _ wr (by omega) ho.out)
                    have HN2 : Hid (S ++ upFrom (x.a + 1) k ++ [x.a + ((k : Int) + 1)] = S ++ upFrom (x.a + 1) (k + 1)) := Lib.hid (by rw [up_succ, List.append_assoc, show x.a + ((k : Int) + 1) = x.a + 1 + (k : Int) by omega])
                    go_wp2_with fail
                    refine HW.out.mono ?_
                    rintro e w5 ⟨v5, rfl, ho5, hw5⟩
                    go_wp2
                    go_roundw
                    case rel => exact ⟨k + 1, by omega, by first | rfl | go_num, Lib.hid (by rw [← HN2.out]; exact ho5), Lib.hid (hu.out.keep hw5)⟩
                    case measure => simp [intOf]; omega
                  · obtain rfl : k = np := by omega
                    have dk : decide ((k : Int) + 1 ≤ (k : Int)) = false := by simp; omega
                    have HE : Hid (insAll [] T = insAll [] (S ++ upFrom (x.a + 1) k)) := Lib.hid (by rw [← HT.out, HM2.out])
                    go_wp2
                    go_ret
                    exact ⟨_, rfl, by rw [HRES.out, HE.out]; exact own_weak ho.out (by omega), hu.out.bel⟩
              by_cases h : x.op = 25
              · have e26 : ((x.op : Int) == 26) = false := by simp [h]
                have e28 : ((x.op : Int) == 28) = false := by simp [h]
                have e31 : ((x.op : Int) == 31) = false := by simp [h]
                have e24 : ((x.op : Int) == 24) = false := by simp [h]
                have e25 : ((x.op : Int) == 25) = true := by simp [h]
                have e38 : ((x.op : Int) == 38) = false := by simp [h]
                have e50 : ((x.op : Int) == 50) = false := by simp [h]
                have HM2 : Hid (M = [0]) := Lib.hid (by
                  rw [← HMore.out]; unfold more; rw [if_neg (by omega), if_neg (by omega), if_pos h])
                have HW := Lib.hid (with_step (T := T) (d := S) (r := []) (n := 0) (by rw [← HT.out, HM2.out]) HTO.out.len HTO.out.i (w.heap.size + 4) _ wr (by omega) ho3.out)
                have HE : Hid (insAll [] T = insAll [] (S ++ [0])) := Lib.hid (by rw [← HT.out, HM2.out])
                clear h
                have hx2 := hu.out.h2
                have a0 : wr.cell? ⟨w.heap.size + 2, 0, none⟩ = some (.int .i64 x.op) := by simp [World.cell?, hx2]
                have a1 : wr.cell? ⟨w.heap.size + 2, 1, none⟩ = some (.int .i64 x.a) := by simp [World.cell?, hx2]
                have a2 : wr.cell? ⟨w.heap.size + 2, 2, none⟩ = some (.int .i64 x.b) := by simp [World.cell?, hx2]
                have a3 : wr.cell? ⟨w.heap.size + 2, 3, none⟩ = some (.int .i64 x.c) := by simp [World.cell?, hx2]
                have a4 : wr.cell? ⟨w.heap.size + 2, 4, none⟩ = some (.int .i64 x.at') := by simp [World.cell?, hx2]
                clear hx2
                go_wp2_with fail
                refine HW.out.mono ?_
                rintro e w5 ⟨v5, rfl, ho5, hw5⟩
                go_wp2
                go_ret
                exact ⟨_, rfl, by rw [HRES.out, HE.out]; exact own_weak ho5 (by omega), hu.out.bel.trans (hw5.mono hu.out.bel.size)⟩
              by_cases h : x.op = 38
              · have e26 : ((x.op : Int) == 26) = false := by simp [h]
                have e28 : ((x.op : Int) == 28) = false := by simp [h]
                have e31 : ((x.op : Int) == 31) = false := by simp [h]
                have e24 : ((x.op : Int) == 24) = false := by simp [h]
                have e25 : ((x.op : Int) == 25) = false := by simp [h]
                have e38 : ((x.op : Int) == 38) = true := by simp [h]
                have e50 : ((x.op : Int) == 50) = false := by simp [h]
                have hi := HIN.out
                obtain ⟨p0, p1, p2, er, _, ha, hb, hc, h24, h25, h38⟩ := instr_parts hi
                have h38' := h38 h
                rw [h, show roles 38 = [100, 114, 114] by decide] at er
                simp only [List.cons.injEq] at er; obtain ⟨rfl, rfl, rfl, _⟩ := er
                simp [operandB, C.len] at hc
                have hreg := HSM.out.reg
                have hc64 : 0 ≤ x.c ∧ x.c ≤ 64 := by omega
                clear hi ha hb hc h24 h25 h38 h38' hreg
                have HM2 : Hid (M = [x.c + 1]) := Lib.hid (by
                  rw [← HMore.out]; unfold more; rw [if_neg (by omega), if_neg (by omega), if_neg (by omega), if_pos h])
                have HW := Lib.hid (with_step (T := T) (d := S) (r := []) (n := x.c + 1) (by rw [← HT.out, HM2.out]) HTO.out.len HTO.out.i (w.heap.size + 4) _ wr (by omega) ho3.out)
                have HE : Hid (insAll [] T = insAll [] (S ++ [x.c + 1])) := Lib.hid (by rw [← HT.out, HM2.out])
                clear h
                have hx2 := hu.out.h2
                have a0 : wr.cell? ⟨w.heap.size + 2, 0, none⟩ = some (.int .i64 x.op) := by simp [World.cell?, hx2]
                have a1 : wr.cell? ⟨w.heap.size + 2, 1, none⟩ = some (.int .i64 x.a) := by simp [World.cell?, hx2]
                have a2 : wr.cell? ⟨w.heap.size + 2, 2, none⟩ = some (.int .i64 x.b) := by simp [World.cell?, hx2]
                have a3 : wr.cell? ⟨w.heap.size + 2, 3, none⟩ = some (.int .i64 x.c) := by simp [World.cell?, hx2]
                have a4 : wr.cell? ⟨w.heap.size + 2, 4, none⟩ = some (.int .i64 x.at') := by simp [World.cell?, hx2]
                clear hx2
                go_wp2_with fail
                refine HW.out.mono ?_
                rintro e w5 ⟨v5, rfl, ho5, hw5⟩
                go_wp2
                go_ret
                exact ⟨_, rfl, by rw [HRES.out, HE.out]; exact own_weak ho5 (by omega), hu.out.bel.trans (hw5.mono hu.out.bel.size)⟩
              by_cases h : x.op = 50
              · have e26 : ((x.op : Int) == 26) = false := by simp [h]
                have e28 : ((x.op : Int) == 28) = false := by simp [h]
                have e31 : ((x.op : Int) == 31) = false := by simp [h]
                have e24 : ((x.op : Int) == 24) = false := by simp [h]
                have e25 : ((x.op : Int) == 25) = false := by simp [h]
                have e38 : ((x.op : Int) == 38) = false := by simp [h]
                have e50 : ((x.op : Int) == 50) = true := by simp [h]
                have hi := HIN.out
                obtain ⟨p0, p1, p2, er, _, ha, hb, hc, _⟩ := instr_parts hi
                rw [h, show roles 50 = [100, 115, 98] by decide] at er
                simp only [List.cons.injEq] at er; obtain ⟨rfl, rfl, rfl, _⟩ := er
                simp [operandB] at hb
                obtain ⟨nb, hnb⟩ := Int.eq_ofNat_of_zero_le hb.1
                obtain ⟨L, hL⟩ : ∃ L, f.code.drop (pc.toNat + 1) = L := ⟨_, rfl⟩
                have hpl : pc.toNat + 1 < f.code.length := by
                  by_cases c : pc.toNat = f.code.length - 1
                  · exfalso
                    have hlast := HFNK.out.last
                    rw [last_getD (by omega)] at hlast
                    have hxe := HXE.out
                    simp only [← c, hxe] at hlast
                    omega
                  · omega
                have hLl : L.length = f.code.length - (pc.toNat + 1) := by rw [← hL, List.length_drop]
                have hnl : nb ≤ L.length := by
                  rcases Nat.lt_or_ge L.length nb with c | c
                  · exfalso
                    have hop := case_op HFNK.out h2 (by rw [HXE.out]; exact h) (j := L.length - 1) (by rw [HXE.out]; omega) (by omega)
                    have hlast := HFNK.out.last
                    rw [last_getD (by omega)] at hlast
                    have ei : pc.toNat + 1 + (L.length - 1) = f.code.length - 1 := by omega
                    simp only [ei] at hop
                    omega
                  · exact c
                have HM2 : Hid (M = casesL L nb) := Lib.hid (by
                  rw [← HMore.out]; unfold more casesL
                  rw [if_neg (by omega), if_neg (by omega), if_neg (by omega), if_neg (by omega), if_pos h, hL, hnb]; rfl)
                have HRow : Hid (∀ k (hk : k < L.length), InAt w L[k] gC (oC + (pc.toNat + 1 + k) * 5)) := Lib.hid fun k hk => by
                  have := HCR.out (pc.toNat + 1 + k) (by omega)
                  subst hL; simpa using this
                have hb8 : nb ≤ 8 := by omega
                have HNB := Lib.hid hnb
                have hpc2 : pc + 1 ≤ 1001 := by omega
                clear hi ha hb hc h hnb hL
                have hx2 := hu.out.h2
                have a0 : wr.cell? ⟨w.heap.size + 2, 0, none⟩ = some (.int .i64 x.op) := by simp [World.cell?, hx2]
                have a1 : wr.cell? ⟨w.heap.size + 2, 1, none⟩ = some (.int .i64 x.a) := by simp [World.cell?, hx2]
                have a2 : wr.cell? ⟨w.heap.size + 2, 2, none⟩ = some (.int .i64 x.b) := by simp [World.cell?, hx2]
                have a3 : wr.cell? ⟨w.heap.size + 2, 3, none⟩ = some (.int .i64 x.c) := by simp [World.cell?, hx2]
                have a4 : wr.cell? ⟨w.heap.size + 2, 4, none⟩ = some (.int .i64 x.at') := by simp [World.cell?, hx2]
                clear hx2
                go_wp2
                clear a0 a1 a2 a3 a4
                go_loopw [7, 15] (fun v i V => ∃ k : Nat, k ≤ nb ∧ i = .int .i64 (pc + 1 + (k : Int)) ∧ Hid (Owns (w.heap.size + 4) V v (insAll [] (S ++ casesL L k))) ∧ Hid (U4 p (some ⟨gA, oA, none⟩) B D ca cb cd f (some ⟨gC, oC, none⟩) caf x w V)) (fun _ i _ => (pc + 1 + (nb : Int) - intOf i).toNat)
                case atStart => exact ⟨0, by omega, by simp, by simpa [casesL] using ho3, hu⟩
                case round =>
                  clear ho3 hu hsz
                  obtain ⟨k, hk, rfl, ho, hu⟩ := hrel
                  have hsz : w.heap.size + 4 ≤ wr.heap.size := by have := (Array.getElem?_eq_some_iff.1 hu.out.h3).1; omega
                  have hx2 := hu.out.h2
                  have a0 : wr.cell? ⟨w.heap.size + 2, 0, none⟩ = some (.int .i64 x.op) := by simp [World.cell?, hx2]
                  have a1 : wr.cell? ⟨w.heap.size + 2, 1, none⟩ = some (.int .i64 x.a) := by simp [World.cell?, hx2]
                  have a2 : wr.cell? ⟨w.heap.size + 2, 2, none⟩ = some (.int .i64 x.b) := by simp [World.cell?, hx2]
                  have a3 : wr.cell? ⟨w.heap.size + 2, 3, none⟩ = some (.int .i64 x.c) := by simp [World.cell?, hx2]
                  have a4 : wr.cell? ⟨w.heap.size + 2, 4, none⟩ = some (.int .i64 x.at') := by simp [World.cell?, hx2]
                  clear hx2
                  have hf2 := hu.out.h1
                  have q0 : wr.cell? ⟨w.heap.size + 1, 0, none⟩ = some (.string f.name) := by simp [World.cell?, hf2]
                  have q1 : wr.cell? ⟨w.heap.size + 1, 1, none⟩ = some (.int .i64 f.params) := by simp [World.cell?, hf2]
                  have q2 : wr.cell? ⟨w.heap.size + 1, 2, none⟩ = some (.int .i64 f.regs) := by simp [World.cell?, hf2]
                  have q3 : wr.cell? ⟨w.heap.size + 1, 3, none⟩ = some (.slice (some ⟨gC, oC, none⟩) f.code.length caf) := by simp [World.cell?, hf2]
                  clear hf2
                  rw [HNB.out] at a2
                  by_cases hlt : k < nb
                  · have dk : decide (pc + 1 + (k : Int) ≤ pc + (nb : Int)) = true := by simp; omega
                    have dl : decide (pc + 1 + (k : Int) < (f.code.length : Int)) = true := by simp; omega
                    have hLk : k < L.length := by omega
                    have hy := (HRow.out k hLk).below hu.out.bel
                    obtain ⟨y, hye⟩ : ∃ y, L[k] = y := ⟨_, rfl⟩
                    rw [hye] at hy
                    have hsucc := casesL_succ hLk
                    rw [hye] at hsucc
                    have HRest : ∃ r, T = S ++ casesL L k ++ caseRd y ++ r := by
                      refine ⟨((L.take nb).drop (k + 1)).map caseRd |>.flatten, ?_⟩
                      rw [← HT.out, HM2.out]
                      unfold casesL
                      rw [List.append_assoc, List.append_assoc]; congr 1
                      have e : L.take nb = L.take k ++ y :: (L.take nb).drop (k + 1) := by
                        have h1 : (L.take nb).take k = L.take k := by rw [List.take_take]; congr 1; omega
                        have h2 : k < (L.take nb).length := by simp; omega
                        have h3 : (L.take nb)[k] = y := by rw [List.getElem_take]; exact hye
                        rw [← h1, ← h3]
                        exact (List.take_append_drop k (L.take nb)).symm.trans (by rw [List.drop_eq_getElem_cons h2])
                      conv => lhs; rw [e]
                      simp
                    obtain ⟨r, hrest⟩ := HRest
                    have s0 := hy.c0
                    have s1 := hy.c1
                    have s2 := hy.c2
                    have s3' := hy.c3
                    have s4 := hy.c4
                    have HYI := Lib.hid (HRow.out k hLk)
                    have HYE := Lib.hid hye
                    have kp0 : 0 ≤ pc + 1 + (k : Int) := by omega
                    have kp1 : pc + 1 + (k : Int) < (f.code.length : Int) := by omega
                    have ek : (pc + 1 + (k : Int)).toNat = pc.toNat + 1 + k := by omega
                    have hkm : k + 1 ≤ nb := hlt
                    have Hrest := Lib.hid hrest
                    have Hsucc := Lib.hid hsucc
                    have hLL := hLk
                    clear hy hye hlt hrest hsucc
                    by_cases hyb : y.b = 1
                    · have e1 : ((y.b : Int) == 1) = true := by simp [hyb]
                      have HCR2 : Hid (caseRd y = [y.a, y.c]) := Lib.hid (by unfold caseRd; rw [if_pos hyb])
                      have HW1 := Lib.hid (with_step (T := T) (d := S ++ casesL L k) (r := y.c :: r) (n := y.a) (by rw [Hrest.out, HCR2.out]; simp) HTO.out.len HTO.out.i (w.heap.size + 4) _ wr (by omega) ho.out)
                      have HN2 : Hid (S ++ casesL L k ++ [y.a] ++ [y.c] = S ++ casesL L (k + 1)) := Lib.hid (by rw [Hsucc.out, HCR2.out]; simp)
                      clear hyb
                      go_wp2_with fail
                      refine HW1.out.mono ?_
                      rintro e w5 ⟨v5, rfl, ho5, hw5⟩
                      have hu5 := Lib.hid (hu.out.keep hw5)
                      have HW2 := Lib.hid (with_step (T := T) (d := S ++ casesL L k ++ [y.a]) (r := r) (n := y.c) (by rw [Hrest.out, HCR2.out]; simp) HTO.out.len HTO.out.i (w.heap.size + 4) _ w5 (by have := hw5.size; omega) ho5)
                      have hy := HYI.out.below hu5.out.bel
                      rw [HYE.out] at hy
                      clear s0 s1 s2 s3' s4 a0 a1 a2 a3 a4 q0 q1 q2 q3 ho5 hw5
                      have s0 := hy.c0
                      have s1 := hy.c1
                      have s2 := hy.c2
                      have s3' := hy.c3
                      have s4 := hy.c4
                      clear hy
                      have hx2 := hu5.out.h2
                      have a0 : w5.cell? ⟨w.heap.size + 2, 0, none⟩ = some (.int .i64 x.op) := by simp [World.cell?, hx2]
                      have a1 : w5.cell? ⟨w.heap.size + 2, 1, none⟩ = some (.int .i64 x.a) := by simp [World.cell?, hx2]
                      have a2 : w5.cell? ⟨w.heap.size + 2, 2, none⟩ = some (.int .i64 x.b) := by simp [World.cell?, hx2]
                      have a3 : w5.cell? ⟨w.heap.size + 2, 3, none⟩ = some (.int .i64 x.c) := by simp [World.cell?, hx2]
                      have a4 : w5.cell? ⟨w.heap.size + 2, 4, none⟩ = some (.int .i64 x.at') := by simp [World.cell?, hx2]
                      clear hx2
                      have hf2 := hu5.out.h1
                      have q0 : w5.cell? ⟨w.heap.size + 1, 0, none⟩ = some (.string f.name) := by simp [World.cell?, hf2]
                      have q1 : w5.cell? ⟨w.heap.size + 1, 1, none⟩ = some (.int .i64 f.params) := by simp [World.cell?, hf2]
                      have q2 : w5.cell? ⟨w.heap.size + 1, 2, none⟩ = some (.int .i64 f.regs) := by simp [World.cell?, hf2]
                      have q3 : w5.cell? ⟨w.heap.size + 1, 3, none⟩ = some (.slice (some ⟨gC, oC, none⟩) f.code.length caf) := by simp [World.cell?, hf2]
                      clear hf2
                      go_wp2_with fail
                      refine HW2.out.mono ?_
                      rintro e w6 ⟨v6, rfl, ho6, hw6⟩
                      go_wp2
                      go_roundw
                      case rel => exact ⟨k + 1, by omega, by first | rfl | go_num | (simp; omega), Lib.hid (by rw [← HN2.out]; exact ho6), Lib.hid (hu5.out.keep hw6)⟩
                      case measure => simp [intOf]; omega
                    · have e1 : ((y.b : Int) == 1) = false := by simp [hyb]
                      have HCR2 : Hid (caseRd y = [y.a]) := Lib.hid (by unfold caseRd; rw [if_neg hyb])
                      have HW1 := Lib.hid (with_step (T := T) (d := S ++ casesL L k) (r := r) (n := y.a) (by rw [Hrest.out, HCR2.out]; simp) HTO.out.len HTO.out.i (w.heap.size + 4) _ wr (by omega) ho.out)
                      have HN2 : Hid (S ++ casesL L k ++ [y.a] = S ++ casesL L (k + 1)) := Lib.hid (by rw [Hsucc.out, HCR2.out]; simp)
                      clear hyb
                      go_wp2_with fail
                      refine HW1.out.mono ?_
                      rintro e w5 ⟨v5, rfl, ho5, hw5⟩
                      have hu5 := Lib.hid (hu.out.keep hw5)
                      have hy := HYI.out.below hu5.out.bel
                      rw [HYE.out] at hy
                      clear s0 s1 s2 s3' s4 a0 a1 a2 a3 a4 q0 q1 q2 q3 hw5
                      have s0 := hy.c0
                      have s1 := hy.c1
                      have s2 := hy.c2
                      have s3' := hy.c3
                      have s4 := hy.c4
                      clear hy
                      have hx2 := hu5.out.h2
                      have a0 : w5.cell? ⟨w.heap.size + 2, 0, none⟩ = some (.int .i64 x.op) := by simp [World.cell?, hx2]
                      have a1 : w5.cell? ⟨w.heap.size + 2, 1, none⟩ = some (.int .i64 x.a) := by simp [World.cell?, hx2]
                      have a2 : w5.cell? ⟨w.heap.size + 2, 2, none⟩ = some (.int .i64 x.b) := by simp [World.cell?, hx2]
                      have a3 : w5.cell? ⟨w.heap.size + 2, 3, none⟩ = some (.int .i64 x.c) := by simp [World.cell?, hx2]
                      have a4 : w5.cell? ⟨w.heap.size + 2, 4, none⟩ = some (.int .i64 x.at') := by simp [World.cell?, hx2]
                      clear hx2
                      have hf2 := hu5.out.h1
                      have q0 : w5.cell? ⟨w.heap.size + 1, 0, none⟩ = some (.string f.name) := by simp [World.cell?, hf2]
                      have q1 : w5.cell? ⟨w.heap.size + 1, 1, none⟩ = some (.int .i64 f.params) := by simp [World.cell?, hf2]
                      have q2 : w5.cell? ⟨w.heap.size + 1, 2, none⟩ = some (.int .i64 f.regs) := by simp [World.cell?, hf2]
                      have q3 : w5.cell? ⟨w.heap.size + 1, 3, none⟩ = some (.slice (some ⟨gC, oC, none⟩) f.code.length caf) := by simp [World.cell?, hf2]
                      clear hf2
                      go_wp2
                      go_roundw
                      case rel => exact ⟨k + 1, by omega, by first | rfl | go_num | (simp; omega), Lib.hid (by rw [← HN2.out]; exact ho5), hu5⟩
                      case measure => simp [intOf]; omega
                  · obtain rfl : k = nb := by omega
                    have dk : decide (pc + 1 + (k : Int) ≤ pc + (k : Int)) = false := by simp; omega
                    have HE : Hid (insAll [] T = insAll [] (S ++ casesL L k)) := Lib.hid (by rw [← HT.out, HM2.out])
                    go_wp2
                    go_ret
                    exact ⟨_, rfl, by rw [HRES.out, HE.out]; exact own_weak ho.out (by omega), hu.out.bel⟩
              have HM2 : Hid (M = []) := Lib.hid (by
                rw [← HMore.out]; unfold more; rw [if_neg (by omega), if_neg (by omega), if_neg (by omega), if_neg (by omega), if_neg (by omega)])
              have HE : Hid (insAll [] T = insAll [] S) := Lib.hid (by rw [← HT.out, HM2.out, List.append_nil])
              have e26 : ((x.op : Int) == 26) = false := by simp; omega
              have e28 : ((x.op : Int) == 28) = false := by simp; omega
              have e31 : ((x.op : Int) == 31) = false := by simp; omega
              have e24 : ((x.op : Int) == 24) = false := by simp; omega
              have e25 : ((x.op : Int) == 25) = false := by simp; omega
              have e38 : ((x.op : Int) == 38) = false := by simp; omega
              have e50 : ((x.op : Int) == 50) = false := by simp; omega
              have hx2 := hu.out.h2
              have a0 : wr.cell? ⟨w.heap.size + 2, 0, none⟩ = some (.int .i64 x.op) := by simp [World.cell?, hx2]
              have a1 : wr.cell? ⟨w.heap.size + 2, 1, none⟩ = some (.int .i64 x.a) := by simp [World.cell?, hx2]
              have a2 : wr.cell? ⟨w.heap.size + 2, 2, none⟩ = some (.int .i64 x.b) := by simp [World.cell?, hx2]
              have a3 : wr.cell? ⟨w.heap.size + 2, 3, none⟩ = some (.int .i64 x.c) := by simp [World.cell?, hx2]
              have a4 : wr.cell? ⟨w.heap.size + 2, 4, none⟩ = some (.int .i64 x.at') := by simp [World.cell?, hx2]
              clear hx2
              go_wp2
              go_ret
              exact ⟨_, rfl, by rw [HRES.out, HE.out]; exact own_weak ho3.out (by omega), hu.out.bel⟩
        · have d4 : decide ((f.code.length : Int) ≤ pc) = true := by simp; omega
          have HR : Hid (usesF p fn pc = []) := Lib.hid (by
            have hI : insF p fn pc = (zeroI, false) := by unfold insF; rw [hfd, if_neg (by simp only [C.len]; omega)]
            unfold usesF; rw [hI]; rfl)
          clear hp hfx hvv q3' hA hm hfn hfd hfe
          go_enter Try.func22, Try.ntmps22
          go_wp2
          go_ret
          exact ⟨_, rfl, by rw [HR.out]; exact World.ownsRow_nil _ _ _ _, below1 _ _⟩
    · have d2 : decide ((p.funcs.length : Int) ≤ fn) = true := by simp; omega
      have HR : Hid (usesF p fn pc = []) := Lib.hid (by
        have hI : insF p fn pc = (zeroI, false) := by unfold insF; rw [if_neg (by simp only [C.len]; omega)]
        unfold usesF; rw [hI]; rfl)
      clear hp
      go_enter Try.func22, Try.ntmps22
      go_wp2
      go_ret
      exact ⟨_, rfl, by rw [HR.out]; exact World.ownsRow_nil _ _ _ _, below1 _ _⟩
end Go.Proofs.Ytcjkhbggongcjaa
