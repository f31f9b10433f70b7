/-
  The specification's reader of a program.
-/
import Derived.Test.YtlkaeonedijfpaaSF
import Derived.Deep.CutBlock
import Derived.Deep.DeepCutAuto
import Derived.Deep.RegionLaw
set_option linter.all false
namespace Go.Proofs.Ytlkaeonedijfpaa
open Go.RowKit C
abbrev nilV : Value := .slice none 0 0
theorem qrfunction_var {w0 w : World} {rb : Nat} {L : Bs} {s sx : Option Bs} {fx : Fc} (h : Sd w0 w rb L s) (hL : L.length ≤ 1100000) (e1 : (fnS s).1 = fx) (e2 : (fnS s).2 = sx) :
    Calls Try.prog 59 #[.pointer (some ⟨rb, 0, none⟩)] w fun e w' => ∃ v, e = .returned (.agg #[.string fx.name, .int .i64 fx.params, .int .i64 fx.regs, v]) ∧ Sd w0 w' rb L sx ∧ Mv w w' rb ∧ w'.ownsRow w.heap.size 57 5 v fx.code.length (fx.code.map inC).flatten ∧ ∀ x ∈ fx.code, I5 x := by
  subst e1 e2; exact qrfunction_any w0 w rb L s h hL
theorem fnS_ok {l L : Bs} (hl : l.length ≤ L.length) (hL : L.length ≤ 1100000) : (fnS (some l)).1.name.size ≤ maxLen ∧ i64 (fnS (some l)).1.params ∧ i64 (fnS (some l)).1.regs := by
  refine ⟨?_, numS_i64 _, numS_i64 _⟩
  have h1 : (fnS (some l)).1.name.size ≤ l.length := textS_size l
  unfold maxLen; omega
theorem after_row {w0 w wr w6 : World} {rb : Nat} {L : Bs} {s : Option Bs} {vf vg vy : Value} {gs : List Gl} {ys : List (List Int × Value)} {zs : List (Fc × Value)} {o : Obj} {row : Option Nat} (h : Pz w0 w wr rb L s vf vg vy gs ys zs) (hg : (wr.alloc o).grownBy w6 row) (hr : row ≠ some (w.heap.size + 1)) : w6.heap[w.heap.size + 1]? = some (pgO vf vg vy 0) := by
  have h1 := (h.alloc o).pw.blk
  exact (hg.block _ (Array.getElem?_eq_some_iff.1 h1).1 (fun e => hr e.symm)).trans h1
theorem cells2 {w : World} {b : Nat} {a0 a1 : Value} {t : TypeId} (h : w.heap[b]? = some (.cells #[a0, a1] t (0, 0))) : (w.cell? ⟨b, 0, none⟩ = some a0 ∧ w.cell? ⟨b, 1, none⟩ = some a1) ∧ w.frozen? ⟨b, 0, none⟩ = false ∧ w.frozen? ⟨b, 1, none⟩ = false := by
  simp [World.cell?, World.frozen?, h]
theorem Sd.drew {w0 w : World} {rb : Nat} {L : Bs} {s : Option Bs} (h : Sd w0 w rb L s) : Sd w0 w.drew rb L s := h.same rfl h.bel.drew
theorem Pz.drew {w0 w wr : World} {rb : Nat} {L : Bs} {s : Option Bs} {vf vg vy : Value} {gs : List Gl} {ys : List (List Int × Value)} {zs : List (Fc × Value)} (h : Pz w0 w wr rb L s vf vg vy gs ys zs) : Pz w0 w wr.drew rb L s vf vg vy gs ys zs :=
  ⟨⟨h.pw.rd.drew, h.pw.mv.drew', h.pw.rl, h.pw.w0l, h.pw.lo, h.pw.blk, h.pw.res, h.pw.of, h.pw.og, h.pw.oy, h.pw.oe, h.pw.fg, h.pw.fy, h.pw.gy, h.pw.fe, h.pw.ge, h.pw.ye⟩, h.ok⟩
set_option maxRecDepth 100000 in
set_option maxHeartbeats 16000000 in
theorem qrprogram_any (w0 w : World) (rb : Nat) (L : Bs) (s : Option Bs) (h : Sd w0 w rb L s) (hL : L.length ≤ 1100000) :
    Calls Try.prog 48 #[.pointer (some ⟨rb, 0, none⟩)] w (QPg w0 w rb L (pgS s)) := by
  have HN : Hid (∀ V s, Sd w0 V rb L s → Calls Try.prog 58 #[.pointer (some ⟨rb, 0, none⟩)] V (SGives w0 V rb L (.int .i64 (numS s).1) (numS s).2)) := Lib.hid fun V s => qnumber_any w0 V rb L s
  have HT : Hid (∀ V s, Sd w0 V rb L s → Calls Try.prog 57 #[.pointer (some ⟨rb, 0, none⟩)] V (SGives w0 V rb L (.string (textS s).1) (textS s).2)) := Lib.hid fun V s => qrtext_any w0 V rb L s
  have HC : Hid (∀ V s, Sd w0 V rb L s → Calls Try.prog 56 #[.pointer (some ⟨rb, 0, none⟩)] V (SGives w0 V rb L (.int .i64 (countS s).1) (countS s).2)) := Lib.hid fun V s => qcount_any w0 V rb L s
  have HS0 := Lib.hid h
  have P0 := Lib.hid (Pz.new h)
  clear h
  have C1 := Lib.hid (HC.out _ _ P0.out.pw.rd)
  go_enter Try.func48, Try.ntmps48
  go_wp2_with fail
  refine C1.out.mono ?_
  rintro e w1 ⟨rfl, hr1, hm1⟩
  have P1 := Lib.hid (P0.out.num hr1 hm1)
  obtain ⟨N, hN, hNL⟩ := count_le hr1
  obtain ⟨s1, hs1⟩ : ∃ x, (countS s).2 = x := ⟨_, rfl⟩
  have HA1 : Hid (allS glS s = listS glS N s1) := Lib.hid (by unfold allS; rw [hN, hs1, Int.toNat_natCast])
  rw [hs1] at P1
  rw [hN]
  clear hN hs1 hr1 hm1 C1
  go_upto_block 0 with fail
  go_cut [3] (fun s3 wx => s3 = .pointer (some ⟨w.heap.size + 1, 0, none⟩) ∧ ∃ (gs : List Gl) (sg : Option Bs) (vg : Value), Hid (allS glS s = (gs, sg)) ∧ Pz w0 w wx rb L sg nilV vg nilV gs [] [])
  case first =>
    go_wp2_with fail
    go_loopw [5] (fun s5 wr => ∃ (k : Nat) (gs : List Gl) (sk : Option Bs) (vg : Value), s5 = .int .i64 (k : Int) ∧ RestL glS N s1 k gs sk ∧ Pz w0 w wr rb L sk nilV vg nilV gs [] []) (fun s5 _ => N - (intOf s5).toNat)
    case atStart => exact ⟨0, [], s1, _, rfl, RestL.start _ _ _, P1.out⟩
    case round =>
      obtain ⟨k, gs, sk, vg, rfl, hre, hf⟩ := hrel
      obtain ⟨Av, mv, cv', rfl⟩ := own_shape hf.pw.og
      have HRE := Lib.hid hre
      have F := Lib.hid hf
      have hkN := hre.1
      have hbd := sd_bad_cell hf.pw.rd
      clear hre hf
      cases sk with
      | none =>
        simp only [isBad] at hbd
        have HD : Hid (allS glS s = (gs, none)) := Lib.hid (HA1.out.trans HRE.out.stop)
        by_cases hlt : k < N
        all_goals
          go_wp2
          go_meet
          case rel => exact ⟨rfl, gs, none, _, HD, F.out⟩
      | some l =>
        simp only [isBad] at hbd
        by_cases hlt : k < N
        · obtain ⟨nm, hnm⟩ : ∃ x, (textS (some l)).1 = x := ⟨_, rfl⟩
          obtain ⟨q1, hq1⟩ : ∃ x, (textS (some l)).2 = x := ⟨_, rfl⟩
          obtain ⟨kd, hkd⟩ : ∃ x, (numS q1).1 = x := ⟨_, rfl⟩
          obtain ⟨q2, hq2⟩ : ∃ x, (numS q1).2 = x := ⟨_, rfl⟩
          have hin : glS (some l) = (⟨nm, kd⟩, q2) := by simp only [glS, hnm, hq1, hkd, hq2]
          have HNX := HRE.out.next hlt
          rw [hin] at HNX
          have HNXT := Lib.hid HNX
          have HOK : Hid (nm.size ≤ maxLen ∧ i64 kd) := Lib.hid ⟨by have h1 := textS_size l; have h2 := F.out.pw.rd.len; rw [hnm] at h1; unfold maxLen; omega, by rw [← hkd]; exact numS_i64 _⟩
          have HXL : Hid (gs.length + 1 ≤ 1100000) := Lib.hid (by have := HRE.out.2.1; omega)
          have g1 := HT.out _ _ F.out.pw.rd
          rw [hnm, hq1] at g1
          have G1 := Lib.hid g1
          have E2 := Lib.hid (And.intro hkd hq2)
          clear g1 hnm hq1 hkd hq2 hin HNX
          go_wp2_with fail
          refine G1.out.mono ?_
          rintro e v1 ⟨rfl, hr1, hm1⟩
          have X1 := Lib.hid (Gx.new (F.out.num hr1 hm1) nm 0)
          obtain ⟨xb, hxb⟩ : ∃ n, v1.heap.size = n := ⟨_, rfl⟩
          rw [hxb] at X1
          have g2 := HN.out _ _ X1.out.f.pw.rd
          rw [E2.out.1, E2.out.2] at g2
          have G2 := Lib.hid g2
          clear g2 hr1 hm1 G1 hbd
          go_wp2_with fail
          refine G2.out.mono ?_
          rintro e v2 ⟨rfl, hr2, hm2⟩
          have x2 := X1.out.num hr2 hm2
          obtain ⟨⟨d0, d1⟩, y0, y1⟩ := cells2 x2.x
          have X2 := Lib.hid (x2.set1 kd)
          clear hr2 hm2 G2 x2
          go_upto_region 8 with fail
          generalize v2.setCell ⟨xb, 1, none⟩ (.int .i64 kd) = V2 at X2 ⊢
          clear d0 d1 y0 y1
          obtain ⟨⟨d0, d1⟩, y0, y1⟩ := cells2 X2.out.x
          obtain ⟨⟨c0, c1, c2, c3⟩, z0, z1, z2, z3⟩ := cells4 X2.out.f.pw.blk
          obtain ⟨i0, hi, hz0, hz1, hz2⟩ := info_parts infoGl
          have HXL2 := HXL.out
          have hfl := (Array.getElem?_eq_some_iff.1 X2.out.f.pw.blk).1
          go_wp2_with (at_builtin; refine wpList_append_lies _ rfl _ _ _ rfl (w.heap.size + 1 + 1) 51 i0 _ 2 24 Try.underlying28 hi hz0 hz1 hz2 rfl (by omega) (.slice Av mv cv') gs.length _ rfl (World.ownsRow.alloc X2.out.f.pw.og _) ⟨V2.heap.size, 0, none⟩ 1 1 [.string nm, .int .i64 kd] rfl rfl (World.news_of_block (cs := #[.string nm, .int .i64 kd]) (t := 51) (fr := (0, 0)) (heap_alloc_new V2 _)) (by simp [Value.oneCell']) (by omega) (by unfold maxLen; omega) (by omega) (by simp; omega) (V2.heap.size + 1) (by simp) ?_; intro g1 cap1 w6 hown1 hgr1 hat1 hlt1; have hmo := Lib.hid (Pz.moreG (X2.out.f.alloc _) (x := ⟨nm, kd⟩) HOK.out rfl hgr1 (hat1.imp id fun e => by rw [e]; simp) hown1); obtain ⟨⟨e0, e1, e2, e3⟩, f0, f1, f2, f3⟩ := cells4 (after_row X2.out.f hgr1 X2.out.f.pw.ptg))
          go_roundw
          case rel => exact ⟨k + 1, _, q2, _, by go_num, HNXT.out, hmo.out⟩
          case measure => simp [intOf]; omega
        · obtain rfl : k = N := by omega
          have HD : Hid (allS glS s = (gs, some l)) := Lib.hid (HA1.out.trans HRE.out.done)
          go_wp2
          go_meet
          case rel => exact ⟨rfl, gs, some l, _, HD, F.out⟩
  case rest =>
    obtain ⟨rfl, gs, sg, vg, HG, hpz⟩ := hcut
    have P2 := Lib.hid hpz
    clear hpz P1 HA1 P0 HS0
    have C2 := Lib.hid (HC.out _ _ P2.out.pw.rd)
    go_wp2_with fail
    refine C2.out.mono ?_
    rintro e w2 ⟨rfl, hr2, hm2⟩
    have P3 := Lib.hid (P2.out.num hr2 hm2)
    obtain ⟨M, hM, hML⟩ := count_le hr2
    obtain ⟨s2, hs2⟩ : ∃ x, (countS sg).2 = x := ⟨_, rfl⟩
    have HA2 : Hid (allS (allS numS) sg = listS (allS numS) M s2) := Lib.hid (by rw [allS, hM, hs2, Int.toNat_natCast])
    rw [hs2] at P3
    rw [hM]
    clear hM hs2 hr2 hm2 C2 P2
    go_upto_block 2 with fail
    go_cut [3] (fun s3 wx => s3 = .pointer (some ⟨w.heap.size + 1, 0, none⟩) ∧ ∃ (ys : List (List Int × Value)) (sy : Option Bs) (vy : Value), Hid (allS (allS numS) sg = (ys.map (·.1), sy)) ∧ Pz w0 w wx rb L sy nilV vg vy gs ys [])
    case first =>
      go_wp2_with fail
      go_loopw [7] (fun s7 wr => ∃ (k : Nat) (ys : List (List Int × Value)) (sk : Option Bs) (vy : Value), s7 = .int .i64 (k : Int) ∧ RestL (allS numS) M s2 k (ys.map (·.1)) sk ∧ Pz w0 w wr rb L sk nilV vg vy gs ys []) (fun s7 _ => M - (intOf s7).toNat)
      case atStart => exact ⟨0, [], s2, _, rfl, RestL.start _ _ _, P3.out⟩
      case round =>
        obtain ⟨k, ys, sk, vy, rfl, hre, hf⟩ := hrel
        obtain ⟨Av, mv, cv', rfl⟩ := own_shape hf.pw.oy
        have HRE := Lib.hid hre
        have F := Lib.hid hf
        have hkN := hre.1
        have hbd := sd_bad_cell hf.pw.rd
        clear hre hf
        rename World => wo
        cases sk with
        | none =>
          simp only [isBad] at hbd
          have HD : Hid (allS (allS numS) sg = (ys.map (·.1), none)) := Lib.hid (HA2.out.trans HRE.out.stop)
          by_cases hlt : k < M
          all_goals
            go_wp2
            go_meet
            case rel => exact ⟨rfl, ys, none, _, HD, F.out⟩
        | some l =>
          simp only [isBad] at hbd
          by_cases hlt : k < M
          · have HNX := Lib.hid (HRE.out.next hlt)
            have hyl : ys.length = k := by have := HRE.out.2.1; rwa [List.length_map] at this
            have HXL : Hid (ys.length + 1 ≤ 1100000) := Lib.hid (by omega)
            have C3 := Lib.hid (HC.out _ _ F.out.pw.rd)
            clear hyl
            go_wp2_with fail
            refine C3.out.mono ?_
            rintro e w3 ⟨rfl, hr3, hm3⟩
            have P4 := Lib.hid (F.out.num hr3 hm3)
            obtain ⟨K, hK, hKL⟩ := count_le hr3
            obtain ⟨s3, hs3⟩ : ∃ x, (countS (some l)).2 = x := ⟨_, rfl⟩
            have HA3 : Hid (allS numS (some l) = listS numS K s3) := Lib.hid (by rw [allS, hK, hs3, Int.toNat_natCast])
            rw [hs3] at P4
            rw [hK]
            clear hK hs3 hr3 hm3 C3 hbd
            go_upto_block 4 with fail
            go_cut [8] (fun s8 wx => ∃ (xs : List Int) (sx : Option Bs) (v : Value), s8 = v ∧ Hid (allS numS (some l) = (xs, sx)) ∧ Pl w0 w wx rb L sx nilV vg (.slice Av mv cv') gs ys v xs)
            case first =>
              go_wp2_with fail
              go_loopw [8, 10] (fun s8 s10 wr => ∃ (j : Nat) (xs : List Int) (sj : Option Bs) (v : Value), s10 = .int .i64 (j : Int) ∧ s8 = v ∧ RestL numS K s3 j xs sj ∧ Pl w0 w wr rb L sj nilV vg (.slice Av mv cv') gs ys v xs) (fun _ s10 _ => K - (intOf s10).toNat)
              case atStart => exact ⟨0, [], s3, _, rfl, rfl, RestL.start _ _ _, Pl.start P4.out⟩
              case round =>
                obtain ⟨j, xs, sj, v, rfl, rfl, hre, hf⟩ := hrel
                obtain ⟨Bv, nv, dv', rfl⟩ := own_shape hf.own
                have HRJ := Lib.hid hre
                have FJ := Lib.hid hf
                have hjK := hre.1
                have hbd := sd_bad_cell hf.f.pw.rd
                clear hre hf
                cases sj with
                | none =>
                  simp only [isBad] at hbd
                  have HD : Hid (allS numS (some l) = (xs, none)) := Lib.hid (HA3.out.trans HRJ.out.stop)
                  by_cases hjl : j < K
                  all_goals
                    go_wp2
                    go_meet
                    case rel => exact ⟨xs, none, _, rfl, HD, FJ.out⟩
                | some lj =>
                  simp only [isBad] at hbd
                  by_cases hjl : j < K
                  · obtain ⟨n1, hn1⟩ : ∃ x, (numS (some lj)).1 = x := ⟨_, rfl⟩
                    obtain ⟨q1, hq1⟩ : ∃ x, (numS (some lj)).2 = x := ⟨_, rfl⟩
                    have HJX := HRJ.out.next hjl
                    rw [hn1, hq1] at HJX
                    have HJN := Lib.hid HJX
                    have HOK : Hid (i64 n1) := Lib.hid (by rw [← hn1]; exact numS_i64 _)
                    have HXJ : Hid (xs.length + 1 ≤ 1100000) := Lib.hid (by have := HRJ.out.2.1; omega)
                    have g1 := HN.out _ _ FJ.out.f.pw.rd
                    rw [hn1, hq1] at g1
                    have G1 := Lib.hid g1
                    clear g1 hn1 hq1 HJX
                    go_wp2_with fail
                    refine G1.out.mono ?_
                    rintro e v1 ⟨rfl, hr1, hm1⟩
                    have X1 := Lib.hid (FJ.out.num hr1 hm1)
                    obtain ⟨i0, hi, hz0, hz1, hz2⟩ := info_parts infoInt
                    have HXJ2 := HXJ.out
                    clear hr1 hm1 G1 hbd
                    have hfl := (Array.getElem?_eq_some_iff.1 X1.out.f.pw.blk).1
                    go_wp2_with (at_builtin; refine wpList_append_lies _ rfl _ _ _ rfl (w.heap.size + 1 + 1) 3 i0 _ 1 8 Try.underlying52 hi hz0 hz1 hz2 rfl (by omega) (.slice Bv nv dv') xs.length _ rfl (World.ownsRow.alloc X1.out.own _) ⟨v1.heap.size, 0, none⟩ 1 1 [.int .i64 n1] rfl rfl (World.news_of_block (cs := #[.int .i64 n1]) (t := 3) (fr := (0, 0)) (heap_alloc_new v1 _)) (by simp [Value.oneCell']) (by omega) (by unfold maxLen; omega) (by omega) (by simp; omega) (v1.heap.size + 1) (by simp) ?_; intro g1 cap1 w6 hown1 hgr1 hat1 hlt1; have hmo := Lib.hid (Pl.more (X1.out.alloc _) HOK.out rfl hgr1 (hat1.imp id fun e => by rw [e]; simp) hown1))
                    go_roundw
                    case rel => exact ⟨j + 1, _, q1, _, by go_num, rfl, HJN.out, hmo.out⟩
                    case measure => simp [intOf]; omega
                  · obtain rfl : j = K := by omega
                    have HD : Hid (allS numS (some l) = (xs, some lj)) := Lib.hid (HA3.out.trans HRJ.out.done)
                    go_wp2
                    go_meet
                    case rel => exact ⟨xs, some lj, _, rfl, HD, FJ.out⟩
            case rest =>
              obtain ⟨xs, sx, v, rfl, HX, hpl⟩ := hcut
              obtain ⟨Bv, nv, dv', rfl⟩ := own_shape hpl.own
              have PL := Lib.hid hpl
              have hnx := HNX.out
              rw [HX.out] at hnx
              have HNX2 := Lib.hid hnx
              obtain ⟨⟨c0, c1, c2, c3⟩, z0, z1, z2, z3⟩ := cells4 hpl.f.pw.blk
              obtain ⟨i0, hi, hz0, hz1, hz2⟩ := info_parts infoLy
              have HXL2 := HXL.out
              have hfl := (Array.getElem?_eq_some_iff.1 hpl.f.pw.blk).1
              clear hpl hnx HNX HA3 P4
              rename World => V3
              go_wp2_with (at_builtin; refine wpList_append_lies _ rfl _ _ _ rfl (w.heap.size + 1 + 1) 52 i0 _ 1 24 Try.underlying29 hi hz0 hz1 hz2 rfl (by omega) (.slice Av mv cv') ys.length _ rfl (World.ownsRow.alloc PL.out.f.pw.oy _) ⟨V3.heap.size, 0, none⟩ 1 1 [.slice Bv nv dv'] rfl rfl (World.news_of_block (cs := #[.slice Bv nv dv']) (t := 52) (fr := (0, 0)) (heap_alloc_new V3 _)) (by simp [Value.oneCell']) (by omega) (by unfold maxLen; omega) (by omega) (by simp; omega) (V3.heap.size + 1) (by simp) ?_; intro g1 cap1 w6 hown1 hgr1 hat1 hlt1; have hmo := Lib.hid (Pl.moreY (PL.out.alloc _) rfl hgr1 (hat1.imp id fun e => by rw [e]; simp) hown1); obtain ⟨⟨e0, e1, e2, e3⟩, f0, f1, f2, f3⟩ := cells4 (after_row PL.out.f hgr1 PL.out.f.pw.pty))
              go_roundw
              case rel => exact ⟨k + 1, ys ++ [(xs, .slice Bv nv dv')], sx, _, by go_num, by rw [List.map_append]; exact HNX2.out, hmo.out⟩
              case measure => simp [intOf]; omega
          · obtain rfl : k = M := by omega
            have HD : Hid (allS (allS numS) sg = (ys.map (·.1), some l)) := Lib.hid (HA2.out.trans HRE.out.done)
            go_wp2
            go_meet
            case rel => exact ⟨rfl, ys, some l, _, HD, F.out⟩
    case rest =>
      obtain ⟨rfl, ys, sy, vy, HY, hpz⟩ := hcut
      have P5 := Lib.hid hpz
      clear hpz P3 HA2
      have C5 := Lib.hid (HC.out _ _ P5.out.pw.rd)
      go_wp2_with fail
      refine C5.out.mono ?_
      rintro e w5 ⟨rfl, hr5, hm5⟩
      have P6 := Lib.hid (P5.out.num hr5 hm5)
      obtain ⟨Q', hQ', hQL⟩ := count_le hr5
      obtain ⟨s5, hs5⟩ : ∃ x, (countS sy).2 = x := ⟨_, rfl⟩
      have HA5 : Hid (allS fnS sy = listS fnS Q' s5) := Lib.hid (by rw [allS, hQ', hs5, Int.toNat_natCast])
      rw [hs5] at P6
      rw [hQ']
      clear hQ' hs5 hr5 hm5 C5 P5
      go_upto_block 6 with fail
      go_cut [3] (fun s3 wx => s3 = .pointer (some ⟨w.heap.size + 1, 0, none⟩) ∧ ∃ (zs : List (Fc × Value)) (sz : Option Bs) (vf : Value), Hid (allS fnS sy = (zs.map (·.1), sz)) ∧ Pz w0 w wx rb L sz vf vg vy gs ys zs)
      case first =>
        go_wp2_with fail
        go_loopw [11] (fun s11 wr => ∃ (k : Nat) (zs : List (Fc × Value)) (sk : Option Bs) (vf : Value), s11 = .int .i64 (k : Int) ∧ RestL fnS Q' s5 k (zs.map (·.1)) sk ∧ Pz w0 w wr rb L sk vf vg vy gs ys zs) (fun s11 _ => Q' - (intOf s11).toNat)
        case atStart => exact ⟨0, [], s5, _, rfl, RestL.start _ _ _, P6.out⟩
        case round =>
          obtain ⟨k, zs, sk, vf, rfl, hre, hf⟩ := hrel
          obtain ⟨Av, mv, cv', rfl⟩ := own_shape hf.pw.of
          have HRE := Lib.hid hre
          have F := Lib.hid hf
          have hkN := hre.1
          have hbd := sd_bad_cell hf.pw.rd
          clear hre hf
          cases sk with
          | none =>
            simp only [isBad] at hbd
            have HD : Hid (allS fnS sy = (zs.map (·.1), none)) := Lib.hid (HA5.out.trans HRE.out.stop)
            by_cases hlt : k < Q'
            all_goals
              go_wp2
              go_meet
              case rel => exact ⟨rfl, zs, none, _, HD, F.out⟩
          | some l =>
            simp only [isBad] at hbd
            by_cases hlt : k < Q'
            · obtain ⟨fx, hfx⟩ : ∃ x, (fnS (some l)).1 = x := ⟨_, rfl⟩
              obtain ⟨q1, hq1⟩ : ∃ x, (fnS (some l)).2 = x := ⟨_, rfl⟩
              have hnx := HRE.out.next hlt
              have hok := fnS_ok (l := l) (L := L) F.out.pw.rd.len hL
              rw [hfx] at hnx hok
              rw [hq1] at hnx
              have HNX := Lib.hid hnx
              have HOK := Lib.hid hok
              have hzl : zs.length = k := by have := HRE.out.2.1; rwa [List.length_map] at this
              have HXL : Hid (zs.length + 1 ≤ 1100000) := Lib.hid (by omega)
              have FD := Lib.hid F.out.drew
              have G1 := Lib.hid (qrfunction_var FD.out.pw.rd hL hfx hq1)
              obtain ⟨⟨c0, c1, c2, c3⟩, z0, z1, z2, z3⟩ := cells4 F.out.pw.blk
              obtain ⟨i0, hi, hz0, hz1, hz2⟩ := info_parts infoFn
              have HXL2 := HXL.out
              have hfl := (Array.getElem?_eq_some_iff.1 F.out.pw.blk).1
              clear hnx hok hzl hfx hq1
              go_upto_region 24 with fail
              go_region_law
                (first
                  | (refine step_append_lies _ (by rfl) _ _ _ (by rfl) (w.heap.size + 1 + 1) 55 i0 _ 4 56 Try.underlying27 hi hz0 hz1 hz2 rfl (by omega) (.slice Av mv cv') zs.length _ (by rfl) (World.ownsRow.alloc P7.out.pw.of _) ⟨w7.heap.size, 0, none⟩ 1 1 [.string fx.name, .int .i64 fx.params, .int .i64 fx.regs, .slice Cv kv ev'] (by rfl) (by rfl) (World.news_of_block (cs := #[.string fx.name, .int .i64 fx.params, .int .i64 fx.regs, .slice Cv kv ev']) (t := 55) (fr := (0, 0)) (heap_alloc_new w7 _)) (by simp [Value.oneCell']) (by omega) (by unfold maxLen; omega) (by omega) (by simp; omega) (w7.heap.size + 1) (by simp) ?_; intro g1 cap1 w8 hown1 hgr1 hat1 hlt1; have hmo := Lib.hid (Pz.moreF FD.out HS7.out HM7.out (z := (fx, .slice Cv kv ev')) HO7.out ⟨HOK.out.1, HOK.out.2.1, HOK.out.2.2, HI7.out⟩ rfl hgr1 (hat1.imp id fun e => by rw [e]; simp) hown1); obtain ⟨⟨e0, e1, e2, e3⟩, f0, f1, f2, f3⟩ := cells4 (after_row P7.out hgr1 P7.out.pw.ptf))
                  | (go_simp; go_at_call 59; refine G1.out.mono ?_; rintro e w7 ⟨v7, rfl, hs7, hm7, ho7, hi7⟩; obtain ⟨Cv, kv, ev', rfl⟩ := own_shape ho7; have P7 := Lib.hid (FD.out.num hs7 hm7); have HS7 := Lib.hid hs7; have HM7 := Lib.hid hm7; have HO7 := Lib.hid ho7; have HI7 := Lib.hid hi7; obtain ⟨⟨x0, x1, x2, x3⟩, u0, u1, u2, u3⟩ := cells4 P7.out.pw.blk; have hpl7 := (Array.getElem?_eq_some_iff.1 P7.out.pw.blk).1; clear hs7 hm7 ho7 hi7))
              all_goals
                go_wp2
                go_roundw
                case rel => exact ⟨k + 1, zs ++ [(fx, .slice Cv kv ev')], q1, _, by go_num, by rw [List.map_append]; exact HNX.out, hmo.out⟩
                case measure => simp [intOf]; omega
            · obtain rfl : k = Q' := by omega
              have HD : Hid (allS fnS sy = (zs.map (·.1), some l)) := Lib.hid (HA5.out.trans HRE.out.done)
              go_wp2
              go_meet
              case rel => exact ⟨rfl, zs, some l, _, HD, F.out⟩
      case rest =>
        obtain ⟨rfl, zs, sz, vf, HZ, hpz⟩ := hcut
        have P7 := Lib.hid hpz
        clear hpz P6 HA5
        obtain ⟨m, hm⟩ : ∃ x, (numS sz).1 = x := ⟨_, rfl⟩
        obtain ⟨sm, hsm⟩ : ∃ x, (numS sz).2 = x := ⟨_, rfl⟩
        have g7 := HN.out _ _ P7.out.pw.rd
        rw [hm, hsm] at g7
        have G7 := Lib.hid g7
        have HMI : Hid (C.I64 m) := Lib.hid (by rw [← hm]; exact numS_i64 _)
        have HPG : Hid (pgS s = (⟨zs.map (·.1), gs, ys.map (·.1), m⟩, sm)) := Lib.hid (by simp only [pgS, HG.out, HY.out, HZ.out, hm, hsm])
        clear g7 hm hsm
        go_wp2_with fail
        refine G7.out.mono ?_
        rintro e w8 ⟨rfl, hr8, hm8⟩
        have p8 := P7.out.num hr8 hm8
        obtain ⟨Av, mv, cv', rfl⟩ := own_shape p8.pw.of
        obtain ⟨Bv, nv, dv', rfl⟩ := own_shape p8.pw.og
        obtain ⟨Dv, kv, ev', rfl⟩ := own_shape p8.pw.oy
        have P8 := Lib.hid p8
        obtain ⟨⟨c0, c1, c2, c3⟩, z0, z1, z2, z3⟩ := cells4 p8.pw.blk
        obtain ⟨⟨d0, d1, d2, d3⟩, y0, y1, y2, y3⟩ := cells4 p8.pw.res
        have HRES := Lib.hid p8.pw.res
        clear p8 hr8 hm8 G7 P7
        go_wp2
        rw [HPG.out]
        refine bodyPost_ret (results_cell_row rfl _ _ w.heap.size 31 #[.slice Av mv cv', .slice Bv nv dv', .slice Dv kv ev', .int .i64 m] (0, 0) _ rfl (by simp [World.setCell, Array.getElem?_modify, HRES.out]) Try.underlying31 rfl infoPg4) rfl ?_
        exact P8.out.fin HMI.out
end Go.Proofs.Ytlkaeonedijfpaa
