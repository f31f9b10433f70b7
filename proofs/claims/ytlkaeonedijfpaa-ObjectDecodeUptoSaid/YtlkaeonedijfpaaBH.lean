/-
  The specification's Bytes.
-/
import Derived.Test.YtlkaeonedijfpaaBG
import Derived.Deep.RegionHeld3
set_option linter.all false
namespace Go.Proofs.Ytlkaeonedijfpaa
open Go.RowKit C
/-- A row of the call's own that has grown out of another. -/
structure Sp (w0 W : World) (v0 : Value) (w : World) (v : Value) (l : Bs) (n : Nat) : Prop where
  own : OwnB w0.heap.size w v l
  bel : Below w0.heap.size w0 w
  gr : Gr W v0 w v
  len : l.length ≤ n
theorem Sp.st {w0 W w : World} {v0 v : Value} {l : Bs} {n : Nat} (h : Sp w0 W v0 w v l n) : St w0 w v l := ⟨h.bel, h.own⟩
theorem Sp.next {w0 W w w' : World} {v0 v v' : Value} {l l' : Bs} {n n' : Nat} (h : Sp w0 W v0 w v l n) (ho : OwnB w0.heap.size w' v' l') (hg : Gr w v w' v') (hn : l'.length ≤ n') : Sp w0 W v0 w' v' l' n' :=
  ⟨ho, (h.st.gr hg ho).bel, h.gr.trans hg, hn⟩
theorem qnum_sp {w0 W w : World} {v0 v : Value} {l : Bs} {n : Nat} {x : Int} (h : Sp w0 W v0 w v l n) (hn : n ≤ 70368744177664) (hx : C.I64 x) :
    Calls Try.prog 31 #[v, .int .i64 x] w fun e w' => ∃ v', e = .returned v' ∧ Sp w0 W v0 w' v' (l ++ numE x) (n + 10) :=
  (qnum_loop w0.heap.size v l x w h.own h.bel.size (Nat.le_trans h.len hn) hx).mono fun e w' ⟨v', he, ho, hg⟩ => ⟨v', he, h.next ho hg (by rw [List.length_append]; have := numE_len hx; have := h.len; omega)⟩
theorem qtext_sp {w0 W w : World} {v0 v : Value} {l : Bs} {n : Nat} {s : ByteArray} (h : Sp w0 W v0 w v l n) (hn : n ≤ 70368000000000) (hs : s.size ≤ 1048576) :
    Calls Try.prog 32 #[v, .string s] w fun e w' => ∃ v', e = .returned v' ∧ Sp w0 W v0 w' v' (l ++ textE s) (n + 2000000) :=
  (qtext_any w0.heap.size v l s w h.own h.bel.size (by have := h.len; omega)).mono fun e w' ⟨v', he, ho, hg⟩ => ⟨v', he, h.next ho hg (by rw [List.length_append]; have := textE_len (s := s) (by omega); have := h.len; omega)⟩
theorem Sp.start {w0 w : World} {v : Value} {l : Bs} {n : Nat} (h : St w0 w v l) (hn : l.length ≤ n) : Sp w0 w v w v l n := ⟨h.own, h.bel, Gr.refl _ _, hn⟩
theorem Sp.start_drew {w0 w : World} {v : Value} {l : Bs} {n : Nat} (h : St w0 w v l) (hn : l.length ≤ n) : Sp w0 w.drew v w.drew v l n := ⟨h.own, h.bel.drew, Gr.refl _ _, hn⟩
theorem Gr.cell {w w' : World} {v v' : Value} (h : Gr w v w' v') {b o : Nat} {x : Value} (hc : w.cell? ⟨b, o, none⟩ = some x) (hne : v.ownBlock ≠ some b) : w'.cell? ⟨b, o, none⟩ = some x := by
  have hb : b < w.heap.size := World.block_lt_of_cell? w _ hc
  rw [World.cell?_of_block (h.keep hb hne).1]; exact hc
theorem Sp.cell {w0 W w : World} {v0 v : Value} {l : Bs} {n : Nat} (h : Sp w0 W v0 w v l n) {b o : Nat} {x : Value} (hc : W.cell? ⟨b, o, none⟩ = some x) (hne : v0.ownBlock ≠ some b) : w.cell? ⟨b, o, none⟩ = some x := h.gr.cell hc hne
theorem Gr.pre_drew {w w' : World} {v v' : Value} (h : Gr w.drew v w' v') : Gr w v w' v' := ⟨⟨h.g.os, h.g.tape, h.g.output, h.g.size, h.g.block⟩, h.at'⟩
theorem Sp.wr {w0 w wr w' : World} {v s0 v' : Value} {l l' : Bs} {b n : Nat} {cs : Array Value} (h : Wr w0 w wr v s0 l b cs) (hs : Sp w0 wr.drew s0 w' v' l' n) : Wr w0 w w' v v' l' b cs := h.next hs.own hs.gr.pre_drew
set_option maxRecDepth 100000 in
set_option maxHeartbeats 8000000 in
theorem qbytes_any (p : Pg) (A B D : Option Addr) (ca cb cd : Nat) (w : World) (hp : PgAt w p A B D ca cb cd) (hb : Bk p) :
    Calls Try.prog 20 #[pv p A B D ca cb cd] w fun e w' => ∃ v, e = .returned v ∧ OwnB w.heap.size w' v (formE p) ∧ Below w.heap.size w w' := by
  obtain ⟨i0, hi, hz0, hz1, hz2⟩ := info_parts infoB
  have hip := pg_ip hp hb
  have HP := Lib.hid hp
  have HI := Lib.hid hip
  have HB := Lib.hid hb
  have hn1 := hb.name.2.2.2.2
  have hn2 := hb.l
  have hn3 := hb.name.2.2.2.1
  obtain ⟨W, hW⟩ : ∃ W, W = (w.alloc (.cells (pb p A B D ca cb cd) 31)).alloc markO := ⟨_, rfl⟩
  have hWB : Hid (Below w.heap.size w W) := Lib.hid (by rw [hW]; exact below2 _ _ _)
  have hWX : Hid (OwnX w.heap.size W (.slice (some ⟨w.heap.size + 1, 0, none⟩) 4 4) C.mark) := Lib.hid (by
    have := mark_cst w.heap.size (w.alloc (.cells (pb p A B D ca cb cd) 31)) (by simp)
    rw [World.size_alloc] at this
    rw [hW]; exact this)
  have hWH : Hid (W.heap[w.heap.size]? = some (.cells (pb p A B D ca cb cd) 31)) := Lib.hid (by rw [hW]; exact heap2a w _ _)
  have hcv := conv_mark (w.alloc (.cells (pb p A B D ca cb cd) 31))
  rw [World.size_alloc, ← hW] at hcv
  obtain ⟨⟨d0, d1, d2, d3⟩, _⟩ := cells4 hWH.out
  have H1 := Lib.hid (qnum_x w.heap.size _ C.mark (p.globals.length : Int) W hWX.out hWB.out.size (by decide) hip.g.1)
  clear hp hb hip hW
  go_enter Try.func20, Try.ntmps20
  go_wp2_with fail
  refine H1.out.mono ?_
  rintro e w1 ⟨v1, rfl, ho1, hg1⟩
  obtain ⟨vm, hvm⟩ : ∃ vm : Value, vm = .slice (some ⟨w.heap.size + 1, 0, none⟩) 4 4 := ⟨_, rfl⟩
  rw [← hvm] at hg1
  have W1 : Hid (Wr w W w1 vm v1 (C.mark ++ pg1 p 0) w.heap.size (pb p A B D ca cb cd)) := Lib.hid ⟨⟨hWB.out.trans (hg1.below hWB.out.size fun k hk => by rw [hvm] at hk; simp [Value.ownBlock] at hk; omega), by simpa [pg1] using ho1⟩, hg1, Bx.gr ⟨hWH.out, fun e => by rw [hvm] at e; simp [Value.ownBlock] at e⟩ hg1⟩
  clear ho1 hg1 H1 hcv d0 d1 d2 d3
  go_wp2_with fail
  go_loopw [3, 4] (fun s0 s19 wr => ∃ k : Nat, k ≤ p.globals.length ∧ s19 = .int .i64 (k : Int) ∧ Wr w W wr vm s0 (C.mark ++ pg1 p k) w.heap.size (pb p A B D ca cb cd)) (fun _ s19 _ => p.globals.length - (intOf s19).toNat)
  case atStart => exact ⟨0, Nat.zero_le _, rfl, W1.out⟩
  case round =>
    obtain ⟨k, hk, rfl, hW⟩ := hrel
    have HW := Lib.hid hW
    clear hW W1
    obtain ⟨⟨c0, c1, c2, c3⟩, _⟩ := cells4 HW.out.bx.blk
    by_cases hlt : k < p.globals.length
    · obtain ⟨g, o, hAe, hh⟩ := HP.out.gs.at (by omega)
      have hx := (hh k hlt).below HW.out.st.bel
      have hgl := (hh k hlt).lt
      subst hAe
      obtain ⟨x, hxe⟩ : ∃ x, p.globals[k] = x := ⟨_, rfl⟩
      have hxm : x ∈ p.globals := by rw [← hxe]; exact List.getElem_mem hlt
      rw [hxe] at hx
      have q0 := hx.c0
      have q1 := hx.c1
      have hnm := HB.out.name.2.1 x hxm
      have hki := Lib.hid (HI.out.g.2 x hxm).2
      have HS0 : Hid (Sp w wr.drew u3 wr.drew u3 (C.mark ++ pg1 p k) 200000000) := Lib.hid (Sp.start_drew HW.out.st (by have := pg1_len HI.out HB.out k; rw [List.length_append]; simp only [C.mark, List.length_cons, List.length_nil]; omega))
      have HE : Hid (C.mark ++ pg1 p (k + 1) = C.mark ++ pg1 p k ++ textE x.name ++ numE x.kind) := Lib.hid (by rw [pg1_succ hlt, hxe]; simp only [List.append_assoc])
      have HK : Hid (∀ V v l n, Sp w wr.drew u3 V v l n → V.cell? ⟨w.heap.size, 1, none⟩ = some (.slice (some ⟨g, o, none⟩) p.globals.length cb) ∧ V.cell? ⟨g, o + k * 2, none⟩ = some (.string x.name) ∧ V.cell? ⟨g, o + k * 2 + 1, none⟩ = some (.int .i64 x.kind)) := Lib.hid fun V v l n h =>
        ⟨h.cell c1 HW.out.bx.ne, h.cell q0 (fun e => by have := HW.out.st.ge _ e; omega), h.cell q1 (fun e => by have := HW.out.st.ge _ e; omega)⟩
      obtain ⟨L, hL⟩ : ∃ L, C.mark ++ pg1 p k = L := ⟨_, rfl⟩
      have kk0 : (0 : Int) ≤ (k : Int) := by omega
      have kk1 : (k : Int) < (p.globals.length : Int) := by omega
      rw [hL] at HS0 HE
      clear hx hh hxe hxm hL
      go_wp2_with fail
      go_region_held3 (fun w' => w'.cell? ⟨w.heap.size, 1, none⟩ = some (.slice (some ⟨g, o, none⟩) p.globals.length cb) ∧ w'.cell? ⟨g, o + k * 2, none⟩ = some (.string x.name) ∧ w'.cell? ⟨g, o + k * 2 + 1, none⟩ = some (.int .i64 x.kind))
        (first
          | exact ⟨c1, q0, q1⟩
          | exact HK.out _ _ _ _ hs3
          | exact HK.out _ _ _ _ hs2
          | assumption)
        (first
          | (go_at_call 32; (with_reducible refine (qtext_sp HS0.out (by omega) hnm).mono ?_); rintro e w2 ⟨v2, rfl, hs2⟩)
          | (go_at_call 31; (with_reducible refine (qnum_sp hs2 (by omega) hki.out).mono ?_); rintro e w3 ⟨v3, rfl, hs3⟩))
      have W3 : Hid (Wr w W w3 vm v3 (C.mark ++ pg1 p (k + 1)) w.heap.size _) := Lib.hid (by rw [HE.out]; exact hs3.wr HW.out)
      clear hs2 hs3 c0 c1 c2 c3 q0 q1
      go_wp2
      go_roundw
      case rel => exact ⟨k + 1, by omega, by go_num, W3.out⟩
      case measure => simp [intOf]; omega
    · obtain rfl : k = p.globals.length := by omega
      have HS1 := Lib.hid (qnum_loop w.heap.size u3 _ (p.layouts.length : Int) wr HW.out.st.own HW.out.size (by have := pg1_len HI.out HB.out p.globals.length; rw [List.length_append]; simp only [C.mark, List.length_cons, List.length_nil]; omega) HI.out.y.1)
      go_wp2_with fail
      refine HS1.out.mono ?_
      rintro e w2 ⟨v2, rfl, ho2, hg2⟩
      have W2 : Hid (Wr w W w2 vm v2 (C.mark ++ pg2 p 0) w.heap.size (pb p A B D ca cb cd)) := Lib.hid (by have := HW.out.next ho2 hg2; simpa [pg2] using this)
      clear ho2 hg2 HS1 c0 c1 c2 c3 HW
      go_wp2_with fail
      go_loopw [3, 5] (fun s0 s40 wr => ∃ k : Nat, k ≤ p.layouts.length ∧ s40 = .int .i64 (k : Int) ∧ Wr w W wr vm s0 (C.mark ++ pg2 p k) w.heap.size (pb p A B D ca cb cd)) (fun _ s40 _ => p.layouts.length - (intOf s40).toNat)
      case atStart => exact ⟨0, Nat.zero_le _, rfl, W2.out⟩
      case round =>
        obtain ⟨k, hk, rfl, hW⟩ := hrel
        have HW := Lib.hid hW
        clear hW W2
        obtain ⟨⟨c0, c1, c2, c3⟩, _⟩ := cells4 HW.out.bx.blk
        by_cases hlt : k < p.layouts.length
        · obtain ⟨g, o, hAe, hh⟩ := HP.out.ls.at (by omega)
          have hx0 := hh k hlt
          subst hAe
          obtain ⟨x, hxe⟩ : ∃ x, p.layouts[k] = x := ⟨_, rfl⟩
          have hxm : x ∈ p.layouts := by rw [← hxe]; exact List.getElem_mem hlt
          rw [hxe] at hx0
          obtain ⟨Ax, cx, hx0', hcx, hmx, hxr0⟩ := hx0.row
          rw [Nat.mul_one] at hx0'
          have HQ : Hid (∀ V, Below w.heap.size w V → V.cell? ⟨g, o + k, none⟩ = some (.slice Ax x.length cx)) := Lib.hid fun V hV => by rw [bl_cell hV hx0.lt]; exact hx0'
          have q0 := HQ.out wr HW.out.st.bel
          have HXR := Lib.hid hxr0
          have HX := Lib.hid hxe
          have hlen := pg2_len HI.out HB.out k
          have hnm := HB.out.name.2.2.1 x hxm
          have hki := HI.out.y.2 x hxm
          have hkl := numE_len hki.1
          have hml : (C.mark ++ pg2 p k).length ≤ 100000000 := by rw [List.length_append]; simp only [C.mark, List.length_cons, List.length_nil]; omega
          have H2 := Lib.hid (qnum_loop w.heap.size u3 _ (x.length : Int) wr HW.out.st.own HW.out.size (by omega) hki.1)
          have HKI := Lib.hid hki.2
          clear hxe hx0 hx0' hxr0 hh hxm hki hcx hmx
          go_wp2_with fail
          refine H2.out.mono ?_
          rintro e w2 ⟨v2, rfl, ho2, hg2⟩
          have W2 : Hid (Wr w W w2 vm v2 (C.mark ++ pg2 p k ++ numE x.length ++ numsE (x.take 0)) w.heap.size (pb p A B (some ⟨g, o, none⟩) ca cb cd)) := Lib.hid (by have := HW.out.next ho2 hg2; simpa [numsE] using this)
          clear ho2 hg2 H2 q0 c0 c1 c2 c3 HW
          go_wp2_with fail
          go_loopw [3, 6] (fun s0 s6 wr => ∃ j : Nat, j ≤ x.length ∧ s6 = .int .i64 (j : Int) ∧ Wr w W wr vm s0 (C.mark ++ pg2 p k ++ numE x.length ++ numsE (x.take j)) w.heap.size (pb p A B (some ⟨g, o, none⟩) ca cb cd)) (fun _ s6 _ => x.length - (intOf s6).toNat)
          case atStart => exact ⟨0, Nat.zero_le _, rfl, W2.out⟩
          case round =>
            rename World => wo
            obtain ⟨j, hj, rfl, hW⟩ := hrel
            have HW := Lib.hid hW
            clear hW W2
            obtain ⟨⟨c0, c1, c2, c3⟩, _⟩ := cells4 HW.out.bx.blk
            have q0 := HQ.out _ HW.out.st.bel
            by_cases hjt : j < x.length
            · obtain ⟨ga, oa, hAe, hh⟩ := HXR.out.at (by omega)
              have q1 := ((hh j hjt).below HW.out.st.bel).c0
              subst hAe
              rw [Nat.mul_one] at q1
              obtain ⟨y, hye⟩ : ∃ y, x[j] = y := ⟨_, rfl⟩
              have hyi := HKI.out y (by rw [← hye]; exact List.getElem_mem hjt)
              rw [hye] at q1
              have hnl := nums_len (l := x.take j) (fun z hz => HKI.out z (List.mem_of_mem_take hz))
              rw [List.length_take] at hnl
              have H2 := Lib.hid (qnum_loop w.heap.size u3 _ y _ HW.out.st.own HW.out.size (by rw [List.length_append, List.length_append]; omega) hyi)
              have HE : Hid (C.mark ++ pg2 p k ++ numE x.length ++ numsE (x.take (j + 1)) = C.mark ++ pg2 p k ++ numE x.length ++ numsE (x.take j) ++ numE y) := Lib.hid (by rw [nums_take hjt, hye, List.append_assoc _ (numsE (x.take j))])
              clear hh hye hyi hnl
              go_wp2_with fail
              refine H2.out.mono ?_
              rintro e w2 ⟨v2, rfl, ho2, hg2⟩
              have W3 : Hid (Wr w W w2 vm v2 (C.mark ++ pg2 p k ++ numE x.length ++ numsE (x.take (j + 1))) w.heap.size (pb p A B (some ⟨g, o, none⟩) ca cb cd)) := Lib.hid (by rw [HE.out]; exact HW.out.next ho2 hg2)
              clear ho2 hg2 H2 q0 q1 c0 c1 c2 c3
              go_wp2
              go_roundw
              case rel => exact ⟨j + 1, by omega, by go_num, W3.out⟩
              case measure => simp [intOf]; omega
            · obtain rfl : j = x.length := by omega
              have W3 : Hid (Wr w W _ vm u3 (C.mark ++ pg2 p (k + 1)) w.heap.size _) := Lib.hid (by rw [pg2_succ hlt, HX.out]; have := HW.out; rw [List.take_length] at this; simpa only [List.append_assoc] using this)
              go_wp2
              go_roundw
              case rel => exact ⟨k + 1, by omega, by go_num, W3.out⟩
              case measure => simp [intOf]; omega
        · obtain rfl : k = p.layouts.length := by omega
          have HS1 := Lib.hid (qnum_loop w.heap.size u3 _ (p.funcs.length : Int) wr HW.out.st.own HW.out.size (by have := pg2_len HI.out HB.out p.layouts.length; rw [List.length_append]; simp only [C.mark, List.length_cons, List.length_nil]; omega) HI.out.f.1)
          go_wp2_with fail
          refine HS1.out.mono ?_
          rintro e w2 ⟨v2, rfl, ho2, hg2⟩
          have W2 : Hid (Wr w W w2 vm v2 (C.mark ++ pg3 p 0) w.heap.size (pb p A B D ca cb cd)) := Lib.hid (by have := HW.out.next ho2 hg2; simpa [pg3] using this)
          clear ho2 hg2 HS1 c0 c1 c2 c3 HW
          go_wp2_with fail
          go_loopw [3, 7] (fun s0 s40 wr => ∃ k : Nat, k ≤ p.funcs.length ∧ s40 = .int .i64 (k : Int) ∧ Wr w W wr vm s0 (C.mark ++ pg3 p k) w.heap.size (pb p A B D ca cb cd)) (fun _ s40 _ => p.funcs.length - (intOf s40).toNat)
          case atStart => exact ⟨0, Nat.zero_le _, rfl, W2.out⟩
          case round =>
            obtain ⟨k, hk, rfl, hW⟩ := hrel
            have HW := Lib.hid hW
            clear hW W2
            obtain ⟨⟨c0, c1, c2, c3⟩, _⟩ := cells4 HW.out.bx.blk
            by_cases hlt : k < p.funcs.length
            · obtain ⟨g, o, hAe, hh⟩ := HP.out.fs.at (by omega)
              have hx0 := hh k hlt
              have hx := hx0.below HW.out.st.bel
              subst hAe
              obtain ⟨x, hxe⟩ : ∃ x, p.funcs[k] = x := ⟨_, rfl⟩
              have hxm : x ∈ p.funcs := by rw [← hxe]; exact List.getElem_mem hlt
              rw [hxe] at hx0 hx
              obtain ⟨Ax, cx, hx0', hcx, hmx, hxr0⟩ := hx0.row
              have q0 := hx.c0
              have q1 := hx.c1
              have q2 := hx.c2
              have q3 : wr.cell? ⟨g, o + k * 4 + 3, none⟩ = some (.slice Ax x.code.length cx) := by rw [bl_cell HW.out.st.bel hx0.lt]; exact hx0'
              have HXR := Lib.hid hxr0
              have hlen := pg3_len HI.out HB.out k
              obtain ⟨hn4, hn5⟩ := HB.out.name.1 x hxm
              obtain ⟨i1, i2, i3, i4, i5⟩ := HI.out.f.2 x hxm
              have I2 := Lib.hid i2
              have I3 := Lib.hid i3
              have I4 := Lib.hid i4
              have I5 := Lib.hid i5
              have hml : (C.mark ++ pg3 p k).length ≤ 150000000 := by rw [List.length_append]; simp only [C.mark, List.length_cons, List.length_nil]; omega
              have HE0 : Hid (C.mark ++ pg3 p (k + 1) = C.mark ++ pg3 p k ++ fnE x) := Lib.hid (by rw [pg3_succ hlt, hxe, List.append_assoc])
              obtain ⟨L, hL⟩ : ∃ L, C.mark ++ pg3 p k = L := ⟨_, rfl⟩
              rw [hL] at HE0 hml HW
              obtain ⟨fb, hfb⟩ : ∃ fb, wr.heap.size = fb := ⟨_, rfl⟩
              have HWF : Hid (Wr w W (wr.alloc (.cells #[.string x.name, .int .i64 x.params, .int .i64 x.regs, .slice Ax x.code.length cx] 55)) vm u3 L w.heap.size _) := Lib.hid (HW.out.alloc _)
              have HFB : Hid (Bx (wr.alloc (.cells #[.string x.name, .int .i64 x.params, .int .i64 x.regs, .slice Ax x.code.length cx] 55)) u3 fb #[.string x.name, .int .i64 x.params, .int .i64 x.regs, .slice Ax x.code.length cx] 55) := Lib.hid (by rw [← hfb]; exact Bx.new HW.out.st _ _)
              obtain ⟨V0, hV0⟩ : ∃ V0, wr.alloc (.cells #[.string x.name, .int .i64 x.params, .int .i64 x.regs, .slice Ax x.code.length cx] 55) = V0 := ⟨_, rfl⟩
              rw [hV0] at HWF HFB
              have HS0 : Hid (Sp w V0.drew u3 V0.drew u3 L 150000000) := Lib.hid (Sp.start_drew HWF.out.st hml)
              obtain ⟨⟨f0, f1, f2, f3⟩, _⟩ := cells4 HFB.out.blk
              have HK : Hid (∀ V v l n, Sp w V0.drew u3 V v l n → V.cell? ⟨fb, 0, none⟩ = some (.string x.name) ∧ V.cell? ⟨fb, 1, none⟩ = some (.int .i64 x.params) ∧ V.cell? ⟨fb, 2, none⟩ = some (.int .i64 x.regs) ∧ V.cell? ⟨fb, 3, none⟩ = some (.slice Ax x.code.length cx)) := Lib.hid fun V v l n h =>
                ⟨h.cell f0 HFB.out.ne, h.cell f1 HFB.out.ne, h.cell f2 HFB.out.ne, h.cell f3 HFB.out.ne⟩
              have HF := Lib.hid hfb
              have HV0 := Lib.hid hV0
              clear hxe hx hx0 hx0' hxr0 hh hxm hcx hmx hL i1 i2 i3 i4 i5
              go_wp2_with fail
              try rw [hfb]
              try rw [hV0]
              clear hfb hV0
              go_region_held3 (fun w' => w'.cell? ⟨fb, 0, none⟩ = some (.string x.name) ∧ w'.cell? ⟨fb, 1, none⟩ = some (.int .i64 x.params) ∧ w'.cell? ⟨fb, 2, none⟩ = some (.int .i64 x.regs) ∧ w'.cell? ⟨fb, 3, none⟩ = some (.slice Ax x.code.length cx))
                (first
                  | exact ⟨f0, f1, f2, f3⟩
                  | exact HK.out _ _ _ _ hs6
                  | exact HK.out _ _ _ _ hs5
                  | exact HK.out _ _ _ _ hs4
                  | exact HK.out _ _ _ _ hs3
                  | assumption)
                (first
                  | (go_at_call 32; (with_reducible refine (qtext_sp HS0.out (by omega) hn4).mono ?_); rintro e w3 ⟨v3, rfl, hs3⟩)
                  | (go_at_call 31; (with_reducible refine (qnum_sp hs5 (by omega) I4.out).mono ?_); rintro e w6 ⟨v6, rfl, hs6⟩)
                  | (go_at_call 31; (with_reducible refine (qnum_sp hs4 (by omega) I3.out).mono ?_); rintro e w5 ⟨v5, rfl, hs5⟩)
                  | (go_at_call 31; (with_reducible refine (qnum_sp hs3 (by omega) I2.out).mono ?_); rintro e w4 ⟨v4, rfl, hs4⟩))
              have W6 : Hid (Wr w W w6 vm v6 (L ++ fnH x) w.heap.size (pb p (some ⟨g, o, none⟩) B D ca cb cd)) := Lib.hid (by have := hs6.wr HWF.out; simpa [fnH, numsE, List.append_assoc] using this)
              have HF6 : Hid (Bx w6 v6 fb #[.string x.name, .int .i64 x.params, .int .i64 x.regs, .slice Ax x.code.length cx] 55) := Lib.hid (HFB.out.gr hs6.gr.pre_drew)
              have hfl := fnH_len I2.out I3.out hn4 hn5
              clear hs3 hs4 hs5 hs6 f0 f1 f2 f3 c0 c1 c2 c3 q0 q1 q2 q3 HK HS0 HFB HWF HW
              obtain ⟨⟨f0, f1, f2, f3⟩, _⟩ := cells4 HF6.out.blk
              go_wp2_with fail
              go_loopw [3, 9, 10] (fun s0 s9 s10 wr => ∃ j : Nat, j ≤ x.code.length ∧ s10 = .int .i64 (j : Int) ∧ s9 = .int .i64 (atK x.code j) ∧ Wr w W wr vm s0 (L ++ fnH x ++ codeE 0 (x.code.take j)) w.heap.size (pb p (some ⟨g, o, none⟩) B D ca cb cd) ∧ Bx wr s0 fb #[.string x.name, .int .i64 x.params, .int .i64 x.regs, .slice Ax x.code.length cx] 55) (fun _ _ s10 _ => x.code.length - (intOf s10).toNat)
              case atStart => exact ⟨0, Nat.zero_le _, rfl, rfl, by simpa [codeE] using W6.out, HF6.out⟩
              case round =>
                clear f0 f1 f2 f3
                rename World => wo
                obtain ⟨j, hj, rfl, rfl, hW, hF6⟩ := hrel
                have HW := Lib.hid hW
                have HFj := Lib.hid hF6
                clear hW hF6 W6 HF6
                obtain ⟨⟨f0, f1, f2, f3⟩, _⟩ := cells4 HFj.out.blk
                by_cases hjt : j < x.code.length
                · obtain ⟨ga, oa, hAe, hh⟩ := HXR.out.at (by omega)
                  have hx := (hh j hjt).below HW.out.st.bel
                  subst hAe
                  obtain ⟨y, hye⟩ : ∃ y, x.code[j] = y := ⟨_, rfl⟩
                  obtain ⟨j1, j2, j3, j4, j5⟩ := I5.out y (by rw [← hye]; exact List.getElem_mem hjt)
                  have J1 := Lib.hid j1
                  have J2 := Lib.hid j2
                  have J3 := Lib.hid j3
                  have J4 := Lib.hid j4
                  rw [hye] at hx
                  obtain ⟨a0, ha0⟩ : ∃ a0, atK x.code j = a0 := ⟨_, rfl⟩
                  obtain ⟨d, hd⟩ : ∃ d, wrap64 (y.at' - a0) = d := ⟨_, rfl⟩
                  have J5 : Hid (C.I64 d) := Lib.hid (by rw [← hd]; exact i64_wrap _)
                  have q0 := hx.c0
                  have q1 := hx.c1
                  have q2 := hx.c2
                  have q3 := hx.c3
                  have q4 := hx.c4
                  rw [ha0]
                  have hnl := codeE_len (l := x.code.take j) (fun z hz => I5.out z (List.mem_of_mem_take hz)) 0
                  rw [List.length_take] at hnl
                  have hml2 : (L ++ fnH x ++ codeE 0 (x.code.take j)).length ≤ 300000000 := by rw [List.length_append, List.length_append]; omega
                  have HE : Hid (L ++ fnH x ++ codeE 0 (x.code.take (j + 1)) = L ++ fnH x ++ codeE 0 (x.code.take j) ++ numE y.op ++ numE y.a ++ numE y.b ++ numE y.c ++ numE d) := Lib.hid (by
                    rw [code_take hjt, inE, hye, ha0, hd]; simp only [List.append_assoc])
                  have HA : Hid (y.at' = atK x.code (j + 1)) := Lib.hid (by simp [atK, hjt, hye])
                  obtain ⟨M, hM⟩ : ∃ M, L ++ fnH x ++ codeE 0 (x.code.take j) = M := ⟨_, rfl⟩
                  rw [hM] at HE hml2 HW
                  obtain ⟨xb, hxb⟩ : ∃ xb, wo.heap.size = xb := ⟨_, rfl⟩
                  have HWF : Hid (Wr w W (wo.alloc (.cells #[.int .i64 y.op, .int .i64 y.a, .int .i64 y.b, .int .i64 y.c, .int .i64 y.at'] 57)) vm u3 M w.heap.size _) := Lib.hid (HW.out.alloc _)
                  have HFX : Hid (Bx (wo.alloc (.cells #[.int .i64 y.op, .int .i64 y.a, .int .i64 y.b, .int .i64 y.c, .int .i64 y.at'] 57)) u3 fb _ 55) := Lib.hid (HFj.out.alloc _)
                  have HXB : Hid (Bx (wo.alloc (.cells #[.int .i64 y.op, .int .i64 y.a, .int .i64 y.b, .int .i64 y.c, .int .i64 y.at'] 57)) u3 xb #[.int .i64 y.op, .int .i64 y.a, .int .i64 y.b, .int .i64 y.c, .int .i64 y.at'] 57) := Lib.hid (by rw [← hxb]; exact Bx.new HW.out.st _ _)
                  obtain ⟨V0, hV0⟩ : ∃ V0, wo.alloc (.cells #[.int .i64 y.op, .int .i64 y.a, .int .i64 y.b, .int .i64 y.c, .int .i64 y.at'] 57) = V0 := ⟨_, rfl⟩
                  rw [hV0] at HWF HFX HXB
                  have HS0 : Hid (Sp w V0.drew u3 V0.drew u3 M 300000000) := Lib.hid (Sp.start_drew HWF.out.st hml2)
                  have hblk := HXB.out.blk
                  have g0 : V0.cell? ⟨xb, 0, none⟩ = some (.int .i64 y.op) := by simp [World.cell?, hblk]
                  have g1 : V0.cell? ⟨xb, 1, none⟩ = some (.int .i64 y.a) := by simp [World.cell?, hblk]
                  have g2 : V0.cell? ⟨xb, 2, none⟩ = some (.int .i64 y.b) := by simp [World.cell?, hblk]
                  have g3 : V0.cell? ⟨xb, 3, none⟩ = some (.int .i64 y.c) := by simp [World.cell?, hblk]
                  have g4 : V0.cell? ⟨xb, 4, none⟩ = some (.int .i64 y.at') := by simp [World.cell?, hblk]
                  have HK : Hid (∀ V v l n, Sp w V0.drew u3 V v l n → V.cell? ⟨xb, 0, none⟩ = some (.int .i64 y.op) ∧ V.cell? ⟨xb, 1, none⟩ = some (.int .i64 y.a) ∧ V.cell? ⟨xb, 2, none⟩ = some (.int .i64 y.b) ∧ V.cell? ⟨xb, 3, none⟩ = some (.int .i64 y.c) ∧ V.cell? ⟨xb, 4, none⟩ = some (.int .i64 y.at')) := Lib.hid fun V v l n h =>
                    ⟨h.cell g0 HXB.out.ne, h.cell g1 HXB.out.ne, h.cell g2 HXB.out.ne, h.cell g3 HXB.out.ne, h.cell g4 HXB.out.ne⟩
                  have HV0 := Lib.hid hV0
                  clear hblk hye hx hh j1 j2 j3 j4 j5 hM ha0 hnl
                  go_wp2_with fail
                  try rw [hxb]
                  try rw [hV0]
                  clear hxb hV0
                  have hd2 : IntKind.i64.wrap (y.at' - a0) = d := (IntWalk.i64_left _).trans hd
                  go_region_held3 (fun w' => w'.cell? ⟨xb, 0, none⟩ = some (.int .i64 y.op) ∧ w'.cell? ⟨xb, 1, none⟩ = some (.int .i64 y.a) ∧ w'.cell? ⟨xb, 2, none⟩ = some (.int .i64 y.b) ∧ w'.cell? ⟨xb, 3, none⟩ = some (.int .i64 y.c) ∧ w'.cell? ⟨xb, 4, none⟩ = some (.int .i64 y.at'))
                    (first
                      | exact ⟨g0, g1, g2, g3, g4⟩
                      | exact HK.out _ _ _ _ hs7
                      | exact HK.out _ _ _ _ hs6
                      | exact HK.out _ _ _ _ hs5
                      | exact HK.out _ _ _ _ hs4
                      | exact HK.out _ _ _ _ hs3
                      | assumption)
                    (first
                      | (go_at_call 31; (with_reducible refine (qnum_sp hs6 (by omega) J5.out).mono ?_); rintro e w7 ⟨v7, rfl, hs7⟩)
                      | (go_at_call 31; (with_reducible refine (qnum_sp hs5 (by omega) J4.out).mono ?_); rintro e w6 ⟨v6, rfl, hs6⟩)
                      | (go_at_call 31; (with_reducible refine (qnum_sp hs4 (by omega) J3.out).mono ?_); rintro e w5 ⟨v5, rfl, hs5⟩)
                      | (go_at_call 31; (with_reducible refine (qnum_sp hs3 (by omega) J2.out).mono ?_); rintro e w4 ⟨v4, rfl, hs4⟩)
                      | (go_at_call 31; (with_reducible refine (qnum_sp HS0.out (by omega) J1.out).mono ?_); rintro e w3 ⟨v3, rfl, hs3⟩))
                  have W7 : Hid (Wr w W w7 vm v7 (L ++ fnH x ++ codeE 0 (x.code.take (j + 1))) w.heap.size (pb p (some ⟨g, o, none⟩) B D ca cb cd)) := Lib.hid (by rw [HE.out]; exact hs7.wr HWF.out)
                  have HF7 : Hid (Bx w7 v7 fb _ 55) := Lib.hid (HFX.out.gr hs7.gr.pre_drew)
                  obtain ⟨_, _, _, _, k4⟩ := HK.out _ _ _ _ hs7
                  clear hs3 hs4 hs5 hs6 hs7 g0 g1 g2 g3 g4 q0 q1 q2 q3 q4 f0 f1 f2 f3 hd hd2
                  go_wp2
                  go_roundw
                  case rel => exact ⟨j + 1, by omega, by go_num, by rw [HA.out], W7.out, HF7.out⟩
                  case measure => simp [intOf]; omega
                · obtain rfl : j = x.code.length := by omega
                  have W3 : Hid (Wr w W _ vm u3 (C.mark ++ pg3 p (k + 1)) w.heap.size _) := Lib.hid (by rw [HE0.out, fnE_eq]; have := HW.out; rw [List.take_length] at this; simpa only [List.append_assoc] using this)
                  clear HE0
                  go_wp2
                  go_roundw
                  case rel => exact ⟨k + 1, by omega, by go_num, W3.out⟩
                  case measure => simp [intOf]; omega
            · obtain rfl : k = p.funcs.length := by omega
              obtain ⟨L, hL⟩ : ∃ L, C.mark ++ pg3 p p.funcs.length = L := ⟨_, rfl⟩
              obtain ⟨M, hM⟩ : ∃ M, L ++ numE p.main = M := ⟨_, rfl⟩
              have hlen := pgE_len HI.out HB.out
              have hml : L.length ≤ 150000000 ∧ M.length ≤ 150000000 := by
                have h1 := pg3_len HI.out HB.out p.funcs.length
                have h2 := numE_len HI.out.m
                rw [← hM, List.length_append, ← hL, List.length_append]; simp only [C.mark, List.length_cons, List.length_nil]; omega
              have HF : Hid (formE p = M ++ sumE (sumF M)) := Lib.hid (by unfold formE headF; rw [pgE_eq, ← List.append_assoc, hL, hM])
              rw [hL] at HW
              have HS1 := Lib.hid (qnum_loop w.heap.size u3 L p.main wr HW.out.st.own HW.out.size (by omega) HI.out.m)
              rw [hM] at HS1
              clear hL hM hlen
              go_wp2_with fail
              refine HS1.out.mono ?_
              rintro e w2 ⟨v2, rfl, ho2, hg2⟩
              have W2 := Lib.hid (HW.out.next ho2 hg2)
              obtain ⟨A2, cap2, rfl, hc2, hm2, hr2⟩ := ho2.row
              have H3 := Lib.hid (qsum_any A2 M cap2 w2 (by omega) hr2)
              clear ho2 hg2 HS1 c0 c1 c2 c3 HW hr2 hc2 hm2
              go_wp2_with fail
              refine H3.out.mono ?_
              rintro e w3 ⟨rfl, rfl⟩
              obtain ⟨z0, z1, z2, z3, hE, h0, h1, h2, h3⟩ := sumE_walk (sumF M)
              obtain ⟨S, hS⟩ : ∃ S, sumF M = S := ⟨_, rfl⟩
              rw [hS] at h0 h1 h2 h3 hE
              rw [hS]
              have hsl := S.isLt
              have HE : Hid (formE p = M ++ [z0, z1, z2, z3]) := Lib.hid (by rw [HF.out, hS, hE])
              have HSZ := Lib.hid W2.out.size
              clear hE hS
              go_wp2_with (at_builtin; refine wpList_append_lies _ rfl _ _ _ rfl w.heap.size 5 i0 _ 1 1 Try.underlying22 hi hz0 hz1 hz2 rfl (by omega) (.slice A2 M.length cap2) M.length (M.map u8v) rfl (World.ownsRow.alloc W2.out.st.own _) ⟨w2.heap.size, 0, none⟩ 4 4 [u8v z0, u8v z1, u8v z2, u8v z3] rfl rfl (World.news_of_block (cs := #[u8v z0, u8v z1, u8v z2, u8v z3]) (t := 5) (fr := (0, 0)) (heap_alloc_new w2 _)) (by simp [Value.oneCell', u8v]) (by omega) (by unfold maxLen; omega) (by omega) (by simp; have := HSZ.out; omega) (w2.heap.size + 1) (by simp) ?_; intro g1 cap1 w4 hown1 hgr1 hat1 hlt1)
              have hg4 : Gr w2 (.slice A2 M.length cap2) w4 (.slice (some ⟨g1, 0, none⟩) (M.length + 4) cap1) := ((Gr.refl _ _).alloc _).trans (Gr.of hgr1 (by simpa using hat1) rfl)
              have ho4 : OwnB w.heap.size w4 (.slice (some ⟨g1, 0, none⟩) (M.length + 4) cap1) (M ++ [z0, z1, z2, z3]) := OwnB.more (m := [z0, z1, z2, z3]) hown1 rfl
              have W4 := Lib.hid (W2.out.next ho4 hg4)
              have HO4 := Lib.hid ho4
              clear hown1 hgr1 hat1 hg4 ho4 h0 h1 h2 h3
              go_wp2
              go_ret
              exact ⟨_, rfl, by rw [HE.out]; exact HO4.out, W4.out.st.bel⟩
end Go.Proofs.Ytlkaeonedijfpaa
