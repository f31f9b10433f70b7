/-
  The walks of the specification's Uses, Defs and Next.
-/
import Derived.Test.YtcjkhbggongcjaaWT
import Derived.Test.YtcjkhbggongcjaaRI
set_option linter.all false
namespace Go.Proofs.Ytcjkhbggongcjaa
open Go.RowKit C
theorem ins_len (l : List Int) (n : Int) : (ins l n).length ≤ l.length + 1 := by
  induction l with
  | nil => simp [ins]
  | cons a l ih => unfold ins; split; · simp; omega
                   · split <;> simp
theorem insAll_len (m : List Int) : ∀ l : List Int, (insAll l m).length ≤ l.length + m.length := by
  induction m with
  | nil => intro l; simp [insAll]
  | cons a m ih =>
    intro l
    have := ih (ins l a)
    have h2 := ins_len l a
    unfold insAll at this ⊢
    rw [List.foldl_cons]
    simp only [List.length_cons]
    omega
theorem insAll_snoc (d : List Int) (n : Int) : insAll [] (d ++ [n]) = ins (insAll [] d) n := by simp [insAll]
/-- One With, on the way through a list. -/
theorem with_step {T d r : List Int} {n : Int} (hT : T = d ++ n :: r) (hTl : T.length ≤ 300) (hTi : ∀ x ∈ T, i64 x) (base : Nat) (v : Value) (w : World) (hs : base ≤ w.heap.size) (h : Owns base w v (insAll [] d)) :
    Calls Try.prog 51 #[v, .int .i64 n] w fun e w' => ∃ v', e = .returned v' ∧ Owns base w' v' (insAll [] (d ++ [n])) ∧ Below w.heap.size w w' := by
  rw [insAll_snoc]
  have h1 := insAll_len d []
  refine with_own base v (insAll [] d) n w hs h (insAll_inc d [] List.Pairwise.nil) ?_ ?_
  · rw [hT] at hTl; simp at hTl h1; omega
  · intro x hx
    rcases (insAll_mem d [] x).1 hx with e | e
    · cases e
    · exact hTi x (by rw [hT]; simp [e])
/-- What a list of registers is. -/
structure TOk (T : List Int) : Prop where
  len : T.length ≤ 300
  i : ∀ x ∈ T, i64 x
theorem tok_below {T : List Int} (h : ∀ n ∈ T, 0 ≤ n ∧ n < 64) (hl : T.length ≤ 300) : TOk T := ⟨hl, fun x hx => by have := h x hx; unfold i64; omega⟩
theorem rd_len (y : UInt8 × Int) : (rd y).length ≤ 1 := by unfold rd; split <;> simp
theorem wr_len (y : UInt8 × Int) : (wr y).length ≤ 1 := by unfold wr; split <;> simp
theorem more_len {p : Pg} {f : Fc} {x : In} {pc : Nat} (H : Smooth p f) (hi : instrB p f x = true) : (more p f pc x).length ≤ 64 := by
  obtain ⟨r0, r1, r2, er, _, ha, hb, hc, h24, h25, h38⟩ := instr_parts hi
  unfold more
  split
  · split
    · rename_i h; rw [up_len]; have := (H.par x.b h.1 h.2); omega
    · simp
  · split
    · rename_i e; rw [up_len]; have := h24 e; omega
    · split
      · simp
      · split
        · simp
        · split
          · rename_i e
            rw [e, show roles 50 = [100, 115, 98] by decide] at er
            simp only [List.cons.injEq] at er; obtain ⟨rfl, rfl, rfl, _⟩ := er
            simp [operandB] at hb
            have h1 := casesL_len (f.code.drop (pc + 1)) x.b.toNat
            unfold casesL at h1
            omega
          · simp
theorem heap3a (w : World) (o1 o2 o3 : Obj) : (((w.alloc o1).alloc o2).alloc o3).heap[w.heap.size]? = some o1 ∧ (((w.alloc o1).alloc o2).alloc o3).heap[w.heap.size + 1]? = some o2 ∧ (((w.alloc o1).alloc o2).alloc o3).heap[w.heap.size + 2]? = some o3 := by
  have b2 := Below.refl ((w.alloc o1).alloc o2).heap.size ((w.alloc o1).alloc o2) |>.alloc (Nat.le_refl _) o3
  have b1 := Below.refl (w.alloc o1).heap.size (w.alloc o1) |>.alloc (Nat.le_refl _) o2 |>.alloc (by simp) o3
  have h2 := heap_alloc_new (w.alloc o1) o2
  have h3 := heap_alloc_new ((w.alloc o1).alloc o2) o3
  simp only [World.size_alloc] at h2 h3 b1 b2
  exact ⟨(b1.block _ (by omega)).trans (heap_alloc_new w o1), (b2.block _ (by omega)).trans h2, h3⟩
/-- The boxes stand. -/
structure U3 (p : Pg) (A B D : Option Addr) (ca cb cd : Nat) (f : Fc) (Af : Option Addr) (caf : Nat) (x : In) (w V : World) : Prop where
  h0 : V.heap[w.heap.size]? = some (.cells #[.slice A p.funcs.length ca, .slice B p.globals.length cb, .slice D p.layouts.length cd, .int .i64 p.main] 26)
  h1 : V.heap[w.heap.size + 1]? = some (.cells #[.int .i64 x.op, .int .i64 x.a, .int .i64 x.b, .int .i64 x.c, .int .i64 x.at'] 44)
  h2 : V.heap[w.heap.size + 2]? = some (.cells #[.int .i64 x.a, .int .i64 x.b, .int .i64 x.c] 63)
  bel : Below w.heap.size w V
theorem U3.keep {p : Pg} {A B D : Option Addr} {ca cb cd : Nat} {f : Fc} {Af : Option Addr} {caf : Nat} {x : In} {w V W : World} (h : U3 p A B D ca cb cd f Af caf x w V) (hb : Below V.heap.size V W) : U3 p A B D ca cb cd f Af caf x w W :=
  ⟨(hb.block _ (Array.getElem?_eq_some_iff.1 h.h0).1).trans h.h0, (hb.block _ (Array.getElem?_eq_some_iff.1 h.h1).1).trans h.h1, (hb.block _ (Array.getElem?_eq_some_iff.1 h.h2).1).trans h.h2, h.bel.trans (hb.mono h.bel.size)⟩
set_option maxRecDepth 100000 in
set_option maxHeartbeats 32000000 in
theorem rdefs_any (p : Pg) (A B D : Option Addr) (ca cb cd : Nat) (fn pc : Int) (w : World) (hp : PgAt w p A B D ca cb cd) (hv : validB p = true) (bf : i64 fn) (bp : i64 pc) :
    Calls Try.prog 24 #[pv p A B D ca cb cd, .int .i64 fn, .int .i64 pc] w (RetOwn (defsF p fn pc) w) := by
  have HP := Lib.hid hp
  have m1 := hp.ka.2
  unfold maxLen at m1
  by_cases c1 : fn < 0
  · have d1 : decide (fn < 0) = true := by simpa using c1
    have HR : Hid (defsF p fn pc = []) := Lib.hid (by
      have hI : insF p fn pc = (zeroI, false) := by unfold insF; rw [if_neg (by omega)]
      unfold defsF; rw [hI]; rfl)
    clear hp
    go_enter Try.func24, Try.ntmps24
    go_wp2
    go_ret
    exact ⟨_, rfl, by rw [HR.out]; exact World.ownsRow_nil _ _ _ _, below1 _ _⟩
  · have d1 : decide (fn < 0) = false := by simpa using c1
    by_cases c2 : fn < (p.funcs.length : Int)
    · have d2 : decide ((p.funcs.length : Int) ≤ fn) = false := by simp; omega
      have h1 : fn.toNat < p.funcs.length := by omega
      obtain ⟨gA, oA, rfl, hA⟩ := HP.out.fs.at (by omega)
      have hfx := hA fn.toNat h1
      obtain ⟨f, hfe⟩ : ∃ f, p.funcs[fn.toNat] = f := ⟨_, rfl⟩
      rw [hfe] at hfx
      have hm : f ∈ p.funcs := hfe ▸ List.getElem_mem h1
      have hfn := valid_fn hv hm
      have hfd : p.funcs.getD fn.toNat default = f := by rw [getDF h1, hfe]
      have hfx1 := hfx.below (below1 w (.cells #[.slice (some ⟨gA, oA, none⟩) p.funcs.length ca, .slice B p.globals.length cb, .slice D p.layouts.length cd, .int .i64 p.main] 26))
      have q0 := hfx1.c0
      have q1 := hfx1.c1
      have q2 := hfx1.c2
      obtain ⟨Af, caf, q3', hvv⟩ := hfx.ok
      have q3 := (bl_cell (below1 w (.cells #[.slice (some ⟨gA, oA, none⟩) p.funcs.length ca, .slice B p.globals.length cb, .slice D p.layouts.length cd, .int .i64 p.main] 26)) hfx.lt).trans q3'
      have k0 : 0 ≤ fn := by omega
      have h1000 := hfn.len.2
      clear hfx1
      by_cases c3 : pc < 0
      · have d3 : decide (pc < 0) = true := by simpa using c3
        have HR : Hid (defsF p fn pc = []) := Lib.hid (by
      have hI : insF p fn pc = (zeroI, false) := by unfold insF; rw [if_neg (by omega)]
      unfold defsF; rw [hI]; rfl)
        clear hp hfx hvv q3' hA hm hfn hfd hfe
        go_enter Try.func24, Try.ntmps24
        go_wp2
        go_ret
        exact ⟨_, rfl, by rw [HR.out]; exact World.ownsRow_nil _ _ _ _, below1 _ _⟩
      · have d3 : decide (pc < 0) = false := by simpa using c3
        by_cases c4 : pc < (f.code.length : Int)
        · have d4 : decide ((f.code.length : Int) ≤ pc) = false := by simp; omega
          have h2 : pc.toNat < f.code.length := by omega
          obtain ⟨gC, oC, rfl, hC⟩ := hvv.row.at (by omega)
          have hx := hC pc.toNat h2
          obtain ⟨x, hxe⟩ : ∃ x, f.code[pc.toNat] = x := ⟨_, rfl⟩
          rw [hxe] at hx
          have hi := (seq_at p _ _ 0 hfn.seq _ h2).1
          rw [hxe] at hi
          have HS := smooth_of hv hm
          have HXI := Lib.hid hx
          have k1 : 0 ≤ pc := by omega
          obtain ⟨r0, r1, r2, hr⟩ : ∃ r0 r1 r2, roles x.op = [r0, r1, r2] := by obtain ⟨r0, r1, r2, er, _⟩ := instr_parts hi; exact ⟨r0, r1, r2, er⟩
          have HRo : Hid (∀ V, Calls Try.prog 50 #[.int .i64 x.op] V fun e w' => e = .returned (.string (txt [r0, r1, r2])) ∧ V = w') := Lib.hid fun V => by have := roles_any x.op V; rw [hr] at this; exact this
          obtain ⟨s, hs⟩ : ∃ s, txt [r0, r1, r2] = s := ⟨_, rfl⟩
          have s3 : s.size = 3 := by rw [← hs]; rfl
          have i0 : s[0].toNat = r0.toNat := by subst hs; rfl
          have i1 : s[1].toNat = r1.toNat := by subst hs; rfl
          have i2 : s[2].toNat = r2.toNat := by subst hs; rfl
          have n1 : ¬ s.toList = [] := by rw [ByteArray.toList_eq, ← hs]; simp [txt]
          have n2 : s.toList.isEmpty = false := by simp [n1]
          rw [hs] at HRo
          obtain ⟨t0, ht0⟩ : ∃ q, r0.toNat = q := ⟨_, rfl⟩
          rw [ht0] at i0
          obtain ⟨t1, ht1⟩ : ∃ q, r1.toNat = q := ⟨_, rfl⟩
          rw [ht1] at i1
          obtain ⟨t2, ht2⟩ : ∃ q, r2.toNat = q := ⟨_, rfl⟩
          rw [ht2] at i2
          have HT0 := Lib.hid ht0
          have HT1 := Lib.hid ht1
          have HT2 := Lib.hid ht2
          clear ht0 ht1 ht2 hs
          have c0 : (0 : Int) < (s.size : Int) := by omega
          have c1' : (1 : Int) < (s.size : Int) := by omega
          have c2' : (2 : Int) < (s.size : Int) := by omega
          by_cases h51 : x.op = 51
          · have d5 : ((x.op : Int) == 51) = true := by simp [h51]
            have HR : Hid (defsF p fn pc = []) := Lib.hid (by
              have hI : insF p fn pc = (zeroI, false) := by unfold insF; rw [hfd, getDI h2, hxe, if_neg (by intro h; exact h.2.2.2.2 h51)]
              unfold defsF; rw [hI]; rfl)
            clear hp hfx hvv q3' hA hm hfn hfd hfe h51 hi HS hr hxe hC
            have hb1 := Lib.hid (below1 w (.cells #[.slice (some ⟨gA, oA, none⟩) p.funcs.length ca, .slice B p.globals.length cb, .slice D p.layouts.length cd, .int .i64 p.main] 26))
            have hx0 := hx.below (below1 w (.cells #[.slice (some ⟨gA, oA, none⟩) p.funcs.length ca, .slice B p.globals.length cb, .slice D p.layouts.length cd, .int .i64 p.main] 26))
            have z0 := hx0.c0
            have z1 := hx0.c1
            have z2 := hx0.c2
            have z3 := hx0.c3
            have z4 := hx0.c4
            clear hx hx0
            go_enter Try.func24, Try.ntmps24
            go_wp2_with (go_at_call 50; (with_reducible refine (HRo.out _).mono ?_); rintro e w2 ⟨rfl, rfl⟩)
            go_ret
            exact ⟨_, rfl, by rw [HR.out]; exact World.ownsRow_nil _ _ _ _, below2 _ _ _⟩
          · have d5 : ((x.op : Int) == 51) = false := by simp [h51]
            obtain ⟨S0, hS0'⟩ : ∃ S, C.wr (r0, x.a) = S := ⟨_, rfl⟩
            obtain ⟨S1, hS1'⟩ : ∃ S, C.wr (r1, x.b) = S := ⟨_, rfl⟩
            obtain ⟨S2, hS2'⟩ : ∃ S, C.wr (r2, x.c) = S := ⟨_, rfl⟩
            have hS0 := Lib.hid hS0'
            have hS1 := Lib.hid hS1'
            have hS2 := Lib.hid hS2'
            obtain ⟨T, hT'⟩ : ∃ T, S0 ++ S1 ++ S2 ++ [] = T := ⟨_, rfl⟩
            have HT := Lib.hid hT'
            obtain ⟨M, hM⟩ : ∃ M : List Int, [] = M := ⟨_, rfl⟩
            rw [hM] at HT hT'
            have hTT : ((rolesOf x).map wr).flatten = S0 ++ S1 ++ S2 := by
              unfold rolesOf; rw [hr, ← hS0', ← hS1', ← hS2']; simp
            have HTO : Hid (TOk T) := Lib.hid (by
              have e : T = ((rolesOf x).map wr).flatten := by rw [hTT, ← hT', ← hM, List.append_nil]
              refine tok_below (fun n hn => ?_) ?_
              · have := defs_below hv hm (pc := pc.toNat) h2
                rw [hxe] at this
                have hn2 : n ∈ defsI x := by
                  unfold defsI; rw [if_neg (by rw [hr]; simp [h51]), insAll_mem]; exact .inr (by rw [← e]; exact hn)
                have := this.2 n hn2
                have := hfn.par
                omega
              · rw [← hT', ← hM]
                have a0 : S0.length ≤ 1 := by rw [← hS0']; exact wr_len _
                have a1 : S1.length ≤ 1 := by rw [← hS1']; exact wr_len _
                have a2 : S2.length ≤ 1 := by rw [← hS2']; exact wr_len _
                simp only [List.length_append, List.length_nil]; omega)
            have HRES : Hid (defsF p fn pc = insAll [] (S0 ++ S1 ++ S2)) := Lib.hid (by
              have hI : insF p fn pc = (x, true) := by
                unfold insF
                rw [hfd, getDI h2, hxe, if_pos ⟨k0, by simp only [C.len]; omega, k1, by simp only [C.len]; omega, h51⟩]
              unfold defsF
              rw [hI, if_pos rfl]
              unfold defsI; rw [if_neg (by rw [hr]; simp [h51]), hTT])
            have hx0 := hx.below (below1 w (.cells #[.slice (some ⟨gA, oA, none⟩) p.funcs.length ca, .slice B p.globals.length cb, .slice D p.layouts.length cd, .int .i64 p.main] 26))
            have z0 := hx0.c0
            have z1 := hx0.c1
            have z2 := hx0.c2
            have z3 := hx0.c3
            have z4 := hx0.c4
            have hh3 := heap3a w (.cells #[.slice (some ⟨gA, oA, none⟩) p.funcs.length ca, .slice B p.globals.length cb, .slice D p.layouts.length cd, .int .i64 p.main] 26) (.cells #[.int .i64 x.op, .int .i64 x.a, .int .i64 x.b, .int .i64 x.c, .int .i64 x.at'] 44) (.cells #[.int .i64 x.a, .int .i64 x.b, .int .i64 x.c] 63)
            have hu0 := Lib.hid (⟨hh3.1, hh3.2.1, hh3.2.2, below3 _ _ _ _⟩ : U3 p (some ⟨gA, oA, none⟩) B D ca cb cd f (some ⟨gC, oC, none⟩) caf x w (((w.alloc (.cells #[.slice (some ⟨gA, oA, none⟩) p.funcs.length ca, .slice B p.globals.length cb, .slice D p.layouts.length cd, .int .i64 p.main] 26)).alloc (.cells #[.int .i64 x.op, .int .i64 x.a, .int .i64 x.b, .int .i64 x.c, .int .i64 x.at'] 44)).alloc (.cells #[.int .i64 x.a, .int .i64 x.b, .int .i64 x.c] 63)))
            clear hp hfx hvv q3' hA hm hfn hfd hfe h51 hi HS hr hxe hC hx hx0 hTT hT' hS0' hS1' hS2' hM hh3
            go_enter Try.func24, Try.ntmps24
            go_wp2_with (go_at_call 50; (with_reducible refine (HRo.out _).mono ?_); rintro e w2 ⟨rfl, rfl⟩)
            clear z0 z1 z2 z3 z4 q0 q1 q2 q3
            go_loopw [7, 11] (fun v i wr => ∃ (k : Nat) (K : Int), K = (k : Int) ∧ k ≤ 3 ∧ i = .int .i64 K ∧ Hid (Owns (w.heap.size + 3) wr v (insAll [] (LL S0 S1 S2 k))) ∧ Hid (U3 p (some ⟨gA, oA, none⟩) B D ca cb cd f (some ⟨gC, oC, none⟩) caf x w wr)) (fun _ i _ => 3 - (intOf i).toNat)
            case atStart => exact ⟨0, 0, rfl, by omega, rfl, Lib.hid (World.ownsRow_nil _ _ _ _), hu0⟩
            case round =>
              clear hu0
              obtain ⟨k, K, hK, hk, rfl, ho, hu⟩ := hrel
              have hsz : w.heap.size + 3 ≤ wr.heap.size := by have := (Array.getElem?_eq_some_iff.1 hu.out.h2).1; omega
              have hv3 := hu.out.h2
              have y0 : wr.cell? ⟨w.heap.size + 2, 0, none⟩ = some (.int .i64 x.a) := by simp [World.cell?, hv3]
              have y1 : wr.cell? ⟨w.heap.size + 2, 1, none⟩ = some (.int .i64 x.b) := by simp [World.cell?, hv3]
              have y2 : wr.cell? ⟨w.heap.size + 2, 2, none⟩ = some (.int .i64 x.c) := by simp [World.cell?, hv3]
              clear hv3
              by_cases hk0 : k = 0
              · subst hk0
                obtain rfl : K = 0 := by simpa using hK
                clear hK
                obtain ⟨acc, hacc'⟩ : ∃ acc, LL S0 S1 S2 0 = acc := ⟨_, rfl⟩
                rw [hacc'] at ho
                have hacc := Lib.hid hacc'
                clear hacc'
                have HACC : Hid (LL S0 S1 S2 1 = acc ++ S0) := Lib.hid (by rw [← hacc.out]; simp [LL])
                by_cases hv0 : 0 ≤ x.a
                · have dv : decide (0 ≤ x.a) = true := by simpa using hv0
                  by_cases e : r0 = 100
                  · obtain rfl : t0 = 100 := by rw [← HT0.out, e]; rfl
                    have hSk : S0 = [x.a] := by rw [← hS0.out]; unfold C.wr; simp [e, hv0]
                    have HW := Lib.hid (with_step (T := T) (d := acc) (r := S1 ++ S2 ++ M) (n := x.a) (by rw [← hacc.out, ← HT.out]; simp [LL, hSk]) HTO.out.len HTO.out.i (w.heap.size + 3) u7 wr (by omega) ho.out)
                    have HN2 : Hid (acc ++ [x.a] = LL S0 S1 S2 1) := Lib.hid (by rw [HACC.out, hSk])
                    clear hSk e
                    go_wp2_with fail
                    refine HW.out.mono ?_
                    rintro e w5 ⟨v5, rfl, ho5, hw5⟩
                    go_wp2
                    go_roundw
                    case rel => exact ⟨1, 1, rfl, by omega, by first | rfl | go_num, Lib.hid (by rw [← HN2.out]; exact ho5), Lib.hid (hu.out.keep hw5)⟩
                    case measure => simp [intOf]
                  by_cases e2 : r0 = 68
                  · have e := e2
                    obtain rfl : t0 = 68 := by rw [← HT0.out, e]; rfl
                    have hSk : S0 = [x.a] := by rw [← hS0.out]; unfold C.wr; simp [e, hv0]
                    have HW := Lib.hid (with_step (T := T) (d := acc) (r := S1 ++ S2 ++ M) (n := x.a) (by rw [← hacc.out, ← HT.out]; simp [LL, hSk]) HTO.out.len HTO.out.i (w.heap.size + 3) u7 wr (by omega) ho.out)
                    have HN2 : Hid (acc ++ [x.a] = LL S0 S1 S2 1) := Lib.hid (by rw [HACC.out, hSk])
                    clear hSk e
                    go_wp2_with fail
                    refine HW.out.mono ?_
                    rintro e w5 ⟨v5, rfl, ho5, hw5⟩
                    go_wp2
                    go_roundw
                    case rel => exact ⟨1, 1, rfl, by omega, by first | rfl | go_num, Lib.hid (by rw [← HN2.out]; exact ho5), Lib.hid (hu.out.keep hw5)⟩
                    case measure => simp [intOf]
                  have hSk : S0 = [] := by rw [← hS0.out]; unfold C.wr; simp [e, e2]
                  have g1 : ((t0 : Int) == 100) = false := by have := HT0.out; simp; intro h; exact e (UInt8.toNat_inj.1 (by rw [this]; show _ = (_ : Nat); simp; omega))
                  have g2 : ((t0 : Int) == 68) = false := by have := HT0.out; simp; intro h; exact e2 (UInt8.toNat_inj.1 (by rw [this]; show _ = (_ : Nat); simp; omega))
                  clear e e2
                  have HN2 : Hid (acc = LL S0 S1 S2 1) := Lib.hid (by rw [HACC.out, hSk, List.append_nil])
                  clear hSk
                  go_wp2
                  go_roundw
                  case rel => exact ⟨1, 1, rfl, by omega, by first | rfl | go_num, Lib.hid (by rw [← HN2.out]; exact ho.out), hu⟩
                  case measure => simp [intOf]
                have dv : decide (0 ≤ x.a) = false := by simpa using hv0
                have hSk : S0 = [] := by rw [← hS0.out]; unfold C.wr; simp [hv0]; try (intros; omega)
                by_cases e : r0 = 100
                · obtain rfl : t0 = 100 := by rw [← HT0.out, e]; rfl
                  clear e
                  have HN2 : Hid (acc = LL S0 S1 S2 1) := Lib.hid (by rw [HACC.out, hSk, List.append_nil])
                  clear hSk
                  go_wp2
                  go_roundw
                  case rel => exact ⟨1, 1, rfl, by omega, by first | rfl | go_num, Lib.hid (by rw [← HN2.out]; exact ho.out), hu⟩
                  case measure => simp [intOf]
                by_cases e2 : r0 = 68
                · obtain rfl : t0 = 68 := by rw [← HT0.out, e2]; rfl
                  clear e e2
                  have HN2 : Hid (acc = LL S0 S1 S2 1) := Lib.hid (by rw [HACC.out, hSk, List.append_nil])
                  clear hSk
                  go_wp2
                  go_roundw
                  case rel => exact ⟨1, 1, rfl, by omega, by first | rfl | go_num, Lib.hid (by rw [← HN2.out]; exact ho.out), hu⟩
                  case measure => simp [intOf]
                have g1 : ((t0 : Int) == 100) = false := by have := HT0.out; simp; intro h; exact e (UInt8.toNat_inj.1 (by rw [this]; show _ = (_ : Nat); simp; omega))
                have g2 : ((t0 : Int) == 68) = false := by have := HT0.out; simp; intro h; exact e2 (UInt8.toNat_inj.1 (by rw [this]; show _ = (_ : Nat); simp; omega))
                clear e e2
                have HN2 : Hid (acc = LL S0 S1 S2 1) := Lib.hid (by rw [HACC.out, hSk, List.append_nil])
                clear hSk
                go_wp2
                go_roundw
                case rel => exact ⟨1, 1, rfl, by omega, by first | rfl | go_num, Lib.hid (by rw [← HN2.out]; exact ho.out), hu⟩
                case measure => simp [intOf]
              by_cases hk1 : k = 1
              · subst hk1
                obtain rfl : K = 1 := by simpa using hK
                clear hK
                obtain ⟨acc, hacc'⟩ : ∃ acc, LL S0 S1 S2 1 = acc := ⟨_, rfl⟩
                rw [hacc'] at ho
                have hacc := Lib.hid hacc'
                clear hacc'
                have HACC : Hid (LL S0 S1 S2 2 = acc ++ S1) := Lib.hid (by rw [← hacc.out]; simp [LL])
                by_cases hv0 : 0 ≤ x.b
                · have dv : decide (0 ≤ x.b) = true := by simpa using hv0
                  by_cases e : r1 = 100
                  · obtain rfl : t1 = 100 := by rw [← HT1.out, e]; rfl
                    have hSk : S1 = [x.b] := by rw [← hS1.out]; unfold C.wr; simp [e, hv0]
                    have HW := Lib.hid (with_step (T := T) (d := acc) (r := S2 ++ M) (n := x.b) (by rw [← hacc.out, ← HT.out]; simp [LL, hSk]) HTO.out.len HTO.out.i (w.heap.size + 3) u7 wr (by omega) ho.out)
                    have HN2 : Hid (acc ++ [x.b] = LL S0 S1 S2 2) := Lib.hid (by rw [HACC.out, hSk])
                    clear hSk e
                    go_wp2_with fail
                    refine HW.out.mono ?_
                    rintro e w5 ⟨v5, rfl, ho5, hw5⟩
                    go_wp2
                    go_roundw
                    case rel => exact ⟨2, 2, rfl, by omega, by first | rfl | go_num, Lib.hid (by rw [← HN2.out]; exact ho5), Lib.hid (hu.out.keep hw5)⟩
                    case measure => simp [intOf]
                  by_cases e2 : r1 = 68
                  · have e := e2
                    obtain rfl : t1 = 68 := by rw [← HT1.out, e]; rfl
                    have hSk : S1 = [x.b] := by rw [← hS1.out]; unfold C.wr; simp [e, hv0]
                    have HW := Lib.hid (with_step (T := T) (d := acc) (r := S2 ++ M) (n := x.b) (by rw [← hacc.out, ← HT.out]; simp [LL, hSk]) HTO.out.len HTO.out.i (w.heap.size + 3) u7 wr (by omega) ho.out)
                    have HN2 : Hid (acc ++ [x.b] = LL S0 S1 S2 2) := Lib.hid (by rw [HACC.out, hSk])
                    clear hSk e
                    go_wp2_with fail
                    refine HW.out.mono ?_
                    rintro e w5 ⟨v5, rfl, ho5, hw5⟩
                    go_wp2
                    go_roundw
                    case rel => exact ⟨2, 2, rfl, by omega, by first | rfl | go_num, Lib.hid (by rw [← HN2.out]; exact ho5), Lib.hid (hu.out.keep hw5)⟩
                    case measure => simp [intOf]
                  have hSk : S1 = [] := by rw [← hS1.out]; unfold C.wr; simp [e, e2]
                  have g1 : ((t1 : Int) == 100) = false := by have := HT1.out; simp; intro h; exact e (UInt8.toNat_inj.1 (by rw [this]; show _ = (_ : Nat); simp; omega))
                  have g2 : ((t1 : Int) == 68) = false := by have := HT1.out; simp; intro h; exact e2 (UInt8.toNat_inj.1 (by rw [this]; show _ = (_ : Nat); simp; omega))
                  clear e e2
                  have HN2 : Hid (acc = LL S0 S1 S2 2) := Lib.hid (by rw [HACC.out, hSk, List.append_nil])
                  clear hSk
                  go_wp2
                  go_roundw
                  case rel => exact ⟨2, 2, rfl, by omega, by first | rfl | go_num, Lib.hid (by rw [← HN2.out]; exact ho.out), hu⟩
                  case measure => simp [intOf]
                have dv : decide (0 ≤ x.b) = false := by simpa using hv0
                have hSk : S1 = [] := by rw [← hS1.out]; unfold C.wr; simp [hv0]; try (intros; omega)
                by_cases e : r1 = 100
                · obtain rfl : t1 = 100 := by rw [← HT1.out, e]; rfl
                  clear e
                  have HN2 : Hid (acc = LL S0 S1 S2 2) := Lib.hid (by rw [HACC.out, hSk, List.append_nil])
                  clear hSk
                  go_wp2
                  go_roundw
                  case rel => exact ⟨2, 2, rfl, by omega, by first | rfl | go_num, Lib.hid (by rw [← HN2.out]; exact ho.out), hu⟩
                  case measure => simp [intOf]
                by_cases e2 : r1 = 68
                · obtain rfl : t1 = 68 := by rw [← HT1.out, e2]; rfl
                  clear e e2
                  have HN2 : Hid (acc = LL S0 S1 S2 2) := Lib.hid (by rw [HACC.out, hSk, List.append_nil])
                  clear hSk
                  go_wp2
                  go_roundw
                  case rel => exact ⟨2, 2, rfl, by omega, by first | rfl | go_num, Lib.hid (by rw [← HN2.out]; exact ho.out), hu⟩
                  case measure => simp [intOf]
                have g1 : ((t1 : Int) == 100) = false := by have := HT1.out; simp; intro h; exact e (UInt8.toNat_inj.1 (by rw [this]; show _ = (_ : Nat); simp; omega))
                have g2 : ((t1 : Int) == 68) = false := by have := HT1.out; simp; intro h; exact e2 (UInt8.toNat_inj.1 (by rw [this]; show _ = (_ : Nat); simp; omega))
                clear e e2
                have HN2 : Hid (acc = LL S0 S1 S2 2) := Lib.hid (by rw [HACC.out, hSk, List.append_nil])
                clear hSk
                go_wp2
                go_roundw
                case rel => exact ⟨2, 2, rfl, by omega, by first | rfl | go_num, Lib.hid (by rw [← HN2.out]; exact ho.out), hu⟩
                case measure => simp [intOf]
              by_cases hk2 : k = 2
              · subst hk2
                obtain rfl : K = 2 := by simpa using hK
                clear hK
                obtain ⟨acc, hacc'⟩ : ∃ acc, LL S0 S1 S2 2 = acc := ⟨_, rfl⟩
                rw [hacc'] at ho
                have hacc := Lib.hid hacc'
                clear hacc'
                have HACC : Hid (LL S0 S1 S2 3 = acc ++ S2) := Lib.hid (by rw [← hacc.out]; simp [LL])
                by_cases hv0 : 0 ≤ x.c
                · have dv : decide (0 ≤ x.c) = true := by simpa using hv0
                  by_cases e : r2 = 100
                  · obtain rfl : t2 = 100 := by rw [← HT2.out, e]; rfl
                    have hSk : S2 = [x.c] := by rw [← hS2.out]; unfold C.wr; simp [e, hv0]
                    have HW := Lib.hid (with_step (T := T) (d := acc) (r := M) (n := x.c) (by rw [← hacc.out, ← HT.out]; simp [LL, hSk]) HTO.out.len HTO.out.i (w.heap.size + 3) u7 wr (by omega) ho.out)
                    have HN2 : Hid (acc ++ [x.c] = LL S0 S1 S2 3) := Lib.hid (by rw [HACC.out, hSk])
                    clear hSk e
                    go_wp2_with fail
                    refine HW.out.mono ?_
                    rintro e w5 ⟨v5, rfl, ho5, hw5⟩
                    go_wp2
                    go_roundw
                    case rel => exact ⟨3, 3, rfl, by omega, by first | rfl | go_num, Lib.hid (by rw [← HN2.out]; exact ho5), Lib.hid (hu.out.keep hw5)⟩
                    case measure => simp [intOf]
                  by_cases e2 : r2 = 68
                  · have e := e2
                    obtain rfl : t2 = 68 := by rw [← HT2.out, e]; rfl
                    have hSk : S2 = [x.c] := by rw [← hS2.out]; unfold C.wr; simp [e, hv0]
                    have HW := Lib.hid (with_step (T := T) (d := acc) (r := M) (n := x.c) (by rw [← hacc.out, ← HT.out]; simp [LL, hSk]) HTO.out.len HTO.out.i (w.heap.size + 3) u7 wr (by omega) ho.out)
                    have HN2 : Hid (acc ++ [x.c] = LL S0 S1 S2 3) := Lib.hid (by rw [HACC.out, hSk])
                    clear hSk e
                    go_wp2_with fail
                    refine HW.out.mono ?_
                    rintro e w5 ⟨v5, rfl, ho5, hw5⟩
                    go_wp2
                    go_roundw
                    case rel => exact ⟨3, 3, rfl, by omega, by first | rfl | go_num, Lib.hid (by rw [← HN2.out]; exact ho5), Lib.hid (hu.out.keep hw5)⟩
                    case measure => simp [intOf]
                  have hSk : S2 = [] := by rw [← hS2.out]; unfold C.wr; simp [e, e2]
                  have g1 : ((t2 : Int) == 100) = false := by have := HT2.out; simp; intro h; exact e (UInt8.toNat_inj.1 (by rw [this]; show _ = (_ : Nat); simp; omega))
                  have g2 : ((t2 : Int) == 68) = false := by have := HT2.out; simp; intro h; exact e2 (UInt8.toNat_inj.1 (by rw [this]; show _ = (_ : Nat); simp; omega))
                  clear e e2
                  have HN2 : Hid (acc = LL S0 S1 S2 3) := Lib.hid (by rw [HACC.out, hSk, List.append_nil])
                  clear hSk
                  go_wp2
                  go_roundw
                  case rel => exact ⟨3, 3, rfl, by omega, by first | rfl | go_num, Lib.hid (by rw [← HN2.out]; exact ho.out), hu⟩
                  case measure => simp [intOf]
                have dv : decide (0 ≤ x.c) = false := by simpa using hv0
                have hSk : S2 = [] := by rw [← hS2.out]; unfold C.wr; simp [hv0]; try (intros; omega)
                by_cases e : r2 = 100
                · obtain rfl : t2 = 100 := by rw [← HT2.out, e]; rfl
                  clear e
                  have HN2 : Hid (acc = LL S0 S1 S2 3) := Lib.hid (by rw [HACC.out, hSk, List.append_nil])
                  clear hSk
                  go_wp2
                  go_roundw
                  case rel => exact ⟨3, 3, rfl, by omega, by first | rfl | go_num, Lib.hid (by rw [← HN2.out]; exact ho.out), hu⟩
                  case measure => simp [intOf]
                by_cases e2 : r2 = 68
                · obtain rfl : t2 = 68 := by rw [← HT2.out, e2]; rfl
                  clear e e2
                  have HN2 : Hid (acc = LL S0 S1 S2 3) := Lib.hid (by rw [HACC.out, hSk, List.append_nil])
                  clear hSk
                  go_wp2
                  go_roundw
                  case rel => exact ⟨3, 3, rfl, by omega, by first | rfl | go_num, Lib.hid (by rw [← HN2.out]; exact ho.out), hu⟩
                  case measure => simp [intOf]
                have g1 : ((t2 : Int) == 100) = false := by have := HT2.out; simp; intro h; exact e (UInt8.toNat_inj.1 (by rw [this]; show _ = (_ : Nat); simp; omega))
                have g2 : ((t2 : Int) == 68) = false := by have := HT2.out; simp; intro h; exact e2 (UInt8.toNat_inj.1 (by rw [this]; show _ = (_ : Nat); simp; omega))
                clear e e2
                have HN2 : Hid (acc = LL S0 S1 S2 3) := Lib.hid (by rw [HACC.out, hSk, List.append_nil])
                clear hSk
                go_wp2
                go_roundw
                case rel => exact ⟨3, 3, rfl, by omega, by first | rfl | go_num, Lib.hid (by rw [← HN2.out]; exact ho.out), hu⟩
                case measure => simp [intOf]
              obtain rfl : k = 3 := by omega
              obtain rfl : K = 3 := by simpa using hK
              clear hK
              go_wp2
              go_ret
              have hfin : Owns (w.heap.size + 3) wr u7 (insAll [] (S0 ++ S1 ++ S2)) := ho.out
              exact ⟨_, rfl, by rw [HRES.out]; exact own_weak hfin (by omega), hu.out.bel⟩
        · have d4 : decide ((f.code.length : Int) ≤ pc) = true := by simp; omega
          have HR : Hid (defsF p fn pc = []) := Lib.hid (by
            have hI : insF p fn pc = (zeroI, false) := by unfold insF; rw [hfd, if_neg (by simp only [C.len]; omega)]
            unfold defsF; rw [hI]; rfl)
          clear hp hfx hvv q3' hA hm hfn hfd hfe
          go_enter Try.func24, Try.ntmps24
          go_wp2
          go_ret
          exact ⟨_, rfl, by rw [HR.out]; exact World.ownsRow_nil _ _ _ _, below1 _ _⟩
    · have d2 : decide ((p.funcs.length : Int) ≤ fn) = true := by simp; omega
      have HR : Hid (defsF p fn pc = []) := Lib.hid (by
        have hI : insF p fn pc = (zeroI, false) := by unfold insF; rw [if_neg (by simp only [C.len]; omega)]
        unfold defsF; rw [hI]; rfl)
      clear hp
      go_enter Try.func24, Try.ntmps24
      go_wp2
      go_ret
      exact ⟨_, rfl, by rw [HR.out]; exact World.ownsRow_nil _ _ _ _, below1 _ _⟩
end Go.Proofs.Ytcjkhbggongcjaa
