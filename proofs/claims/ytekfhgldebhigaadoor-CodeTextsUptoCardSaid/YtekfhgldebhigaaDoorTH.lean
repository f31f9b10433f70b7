/-
  The specification's Text.
-/
import Derived.Test.YtekfhgldebhigaaDoorTG
import Derived.Deep.RegionHeld3
import Derived.Test.YtekfhgldebhigaaDoorRD
set_option linter.all false
namespace Go.Proofs.YtekfhgldebhigaaDoor
open Go.RowKit C
set_option maxRecDepth 100000
theorem bstep {n : Nat} {V0 V W : World} (hn : n ≤ V0.heap.size) (h : Below n V0 V) (h2 : Below V.heap.size V W) : Below n V0 W := h.trans (h2.mono (Nat.le_trans hn h.size))
theorem str_size {s : ByteArray} {l : Bs} (h : s.data.toList = l) : s.size = l.length := by rw [← h]; rfl
theorem txt_of {s : ByteArray} {l : Bs} (h : s.data.toList = l) : s = txt l := by subst h; rfl
theorem roles_some {op : Int} (h1 : 1 ≤ op) (h2 : op ≤ 52) : ∃ q0 q1 q2, roles op = [q0, q1, q2] := by
  have key : ∀ i : Fin 53, 1 ≤ i.val → (roles (i.val : Int)).length = 3 := by decide
  have := key ⟨op.toNat, by omega⟩ (by simp; omega)
  rw [show ((⟨op.toNat, by omega⟩ : Fin 53).val : Int) = op by simp; omega] at this
  match h : roles op, this with
  | [q0, q1, q2], _ => exact ⟨q0, q1, q2, rfl⟩
theorem used_uL2 {x : In} {q0 q1 q2 : UInt8} (h : roles x.op = [q0, q1, q2]) : usedT x = uL [q0, q1, q2] [x.a, x.b, x.c] 3 := by
  unfold usedT
  rw [h]
  simp only [maskT, List.map_cons, List.map_nil, usedM, uL, List.length_cons, List.length_nil, List.getD_cons_zero, List.getD_cons_succ, List.nil_append]
  by_cases e0 : q0 = 45 <;> by_cases e1 : q1 = 45 <;> by_cases e2 : q2 = 45 <;> simp [e0, e1, e2]
theorem uL_skip {q : Bs} {vs : List Int} {i : Nat} (h : (q.getD i 0).toNat = 45) : uL q vs (i + 1) = uL q vs i := by
  show uL q vs i ++ (if q.getD i 0 = 45 then [] else [vs.getD i 0]) = _
  rw [if_pos (UInt8.toNat_inj.1 h), List.append_nil]
theorem uL_take {q : Bs} {vs : List Int} {i : Nat} (h : ¬ (q.getD i 0).toNat = 45) : uL q vs (i + 1) = uL q vs i ++ [vs.getD i 0] := by
  show uL q vs i ++ (if q.getD i 0 = 45 then [] else [vs.getD i 0]) = _
  rw [if_neg (fun e => h (by rw [e]; rfl))]
theorem uL_i64 {q : Bs} {x : In} (h : I3 x) : ∀ i, i ≤ 3 → ∀ n ∈ uL q [x.a, x.b, x.c] i, i64 n := by
  intro i
  induction i with
  | zero => intro _ n hn; cases hn
  | succ i ih =>
    intro hi n hn
    rcases List.mem_append.1 hn with e | e
    · exact ih (by omega) n e
    · split at e
      · cases e
      · obtain rfl := by simpa using e
        rcases (by omega : i = 0 ∨ i = 1 ∨ i = 2) with rfl | rfl | rfl
        · exact h.1
        · exact h.2.1
        · exact h.2.2
set_option maxHeartbeats 8000000 in
theorem rtext_any (p : Pg) (A B D : Option Addr) (ca cb cd : Nat) (w : World) (hp : PgAt w p A B D ca cb cd) (hz : Bz p) (hop : ∀ f ∈ p.funcs, ∀ x ∈ f.code, 1 ≤ x.op ∧ x.op ≤ 52) (hl : ∀ f ∈ p.funcs, f.code.length ≤ 1100000) (hly : ∀ l ∈ p.layouts, l.length ≤ 1100000) :
    Calls Tryd.prog 8 #[pv p A B D ca cb cd] w fun e w' => e = .returned (.string (txt (textT p))) ∧ Below w.heap.size w w' := by
  have HP := Lib.hid hp
  have HZ := Lib.hid hz
  have HOP := Lib.hid hop
  have HL := Lib.hid hl
  have HLY := Lib.hid hly
  have HN := Lib.hid (B1.new p A B D ca cb cd w)
  have hsz0 : (w.alloc (pbO p A B D ca cb cd)).heap.size = w.heap.size + 1 := by simp
  obtain ⟨V0, hv0, hb0, hkp⟩ : ∃ V0 : World, w.heap.size + 1 ≤ V0.heap.size ∧ Below (w.heap.size + 1) V0 (w.alloc (pbO p A B D ca cb cd)) ∧ ∀ V, Below (w.heap.size + 1) V0 V → B1 p A B D ca cb cd w V :=
    ⟨w.alloc (pbO p A B D ca cb cd), by omega, Below.refl _ _, fun V hV => HN.out.keep (by rw [hsz0]; exact hV)⟩
  have HB0 := Lib.hid hb0
  have HKP := Lib.hid hkp
  have hG1 : (p.globals.length : Int) ≤ 9223372036854775807 := by have := hp.kb.2; unfold maxLen at this; omega
  have hG2 : (p.layouts.length : Int) ≤ 9223372036854775807 := by have := hp.kd.2; unfold maxLen at this; omega
  have hG3 : (p.funcs.length : Int) ≤ 9223372036854775807 := by have := hp.ka.2; unfold maxLen at this; omega
  have HNum : Hid (∀ (n : Int), i64 n → ∀ V, Calls Tryd.prog 24 #[.int .i64 n] V fun e w' => e = .returned (.string (txt (Lib.itoa n))) ∧ Below V.heap.size V w') := Lib.hid fun n hn V => rnum_any n hn V
  clear hp hz hop hl hly hsz0 hb0 hkp
  go_enter Tryd.func8, Tryd.ntmps8
  go_wp2_with fail
  go_loopw [3, 4] (fun s3 s4 wr => ∃ (k : Nat) (st : ByteArray), s4 = .int .i64 (k : Int) ∧ s3 = .string st ∧ k ≤ p.globals.length ∧ st.data.toList = (p.globals.take k).flatMap glT ∧ Below (w.heap.size + 1) V0 wr) (fun _ s4 _ => p.globals.length - (intOf s4).toNat)
  case atStart => exact ⟨0, _, rfl, rfl, Nat.zero_le _, rfl, HB0.out⟩
  case round =>
    obtain ⟨k, st, rfl, rfl, hk, hst, hx⟩ := hrel
    have HX := Lib.hid hx
    have HST := Lib.hid hst
    have hb1 := HKP.out _ hx
    clear hx hst
    by_cases hlt : k < p.globals.length
    · obtain ⟨gb, go, rfl, hh⟩ := HP.out.gs.at (by omega)
      obtain ⟨hxg, c0, c1, s0, b1⟩ := hh k hlt
      have HTK := Lib.hid (flat_take glT hlt)
      have HLEN : Hid (((p.globals.take (k + 1)).flatMap glT).length ≤ 100000000) := Lib.hid (Nat.le_trans (flat_len (fun x hx => by
        obtain ⟨j, hj, rfl⟩ := List.getElem_of_mem hx
        exact glT_len (hh j hj).b1) (k + 1)) HZ.out.g)
      have HLENk : Hid (((p.globals.take k).flatMap glT).length ≤ 100000000) := Lib.hid (by have := HLEN.out; rw [HTK.out, List.length_append] at this; omega)
      have hns : p.globals[k].name.size ≤ 100000000 := by
        have h1 := in_sum (f := fun g : Gl => g.name.size + 30) (List.getElem_mem hlt)
        have h2 := HZ.out.g
        omega
      obtain ⟨g, hg⟩ : ∃ g, p.globals[k] = g := ⟨_, rfl⟩
      rw [hg] at c0 c1 s0 b1 HTK hns
      obtain ⟨y, hy⟩ : ∃ y, txt (Lib.itoa g.kind) = y := ⟨_, rfl⟩
      have hys : y.size ≤ 21 := by rw [← hy, txt_size]; exact itoa_len b1
      have hnum := HNum.out g.kind b1
      rw [hy] at hnum
      have HNM := Lib.hid hnum
      have HG : Hid (glT g = [103, 108, 111, 98, 97, 108, 32] ++ g.name.data.toList ++ [32] ++ y.data.toList ++ [10]) := Lib.hid (by rw [glT_eq, ← hy]; simp [numsT, txt])
      have hss : st.size ≤ 100000000 := by rw [str_size HST.out]; exact HLENk.out
      have z1 : ¬ 9223372036854775807 < 7 + g.name.size := by omega
      have z2 : ¬ 9223372036854775807 < 7 + g.name.size + 1 := by omega
      have z3 : ¬ 9223372036854775807 < 7 + g.name.size + 1 + y.size := by omega
      have z4 : ¬ 9223372036854775807 < 7 + g.name.size + 1 + y.size + 1 := by omega
      have z5 : ¬ 9223372036854775807 < st.size + (7 + g.name.size + 1 + y.size + 1) := by omega
      have hS : ∀ V, Below (w.heap.size + 1) V0 V → (V.cell? ⟨w.heap.size, 1, none⟩ = some (.slice (some ⟨gb, go, none⟩) p.globals.length cb) ∧ V.cell? ⟨gb, go + k * 2, none⟩ = some (.string g.name) ∧ V.cell? ⟨gb, go + k * 2 + 1, none⟩ = some (.int .i64 g.kind) ∧ Below (w.heap.size + 1) V0 V) := fun V hV => by
        obtain ⟨q0, q1, q2, q3, qb⟩ := HKP.out _ hV
        exact ⟨q1, (qb.cell (p := ⟨gb, go + k * 2, none⟩) hxg).trans c0, (qb.cell (p := ⟨gb, go + k * 2 + 1, none⟩) hxg).trans c1, hV⟩
      have HS := Lib.hid hS
      obtain ⟨q0, q1, q2, q3, _⟩ := hb1
      clear hg hh hy hnum c0 c1 hS HLENk
      go_upto_region 5 with fail
      go_region_held3 (fun V => V.cell? ⟨w.heap.size, 1, none⟩ = some (.slice (some ⟨gb, go, none⟩) p.globals.length cb) ∧ V.cell? ⟨gb, go + k * 2, none⟩ = some (.string g.name) ∧ V.cell? ⟨gb, go + k * 2 + 1, none⟩ = some (.int .i64 g.kind) ∧ Below (w.heap.size + 1) V0 V)
        (first
          | exact HS.out _ HX.out.drew
          | (go_split_ands; exact HS.out _ (bstep hv0 (by assumption) hb)))
        (first
          | (go_at_call 24; (with_reducible refine (HNM.out _).mono ?_); rintro e w' ⟨rfl, hb⟩))
      all_goals go_split_ands
      all_goals
        go_wp2
        go_roundw
        case rel => exact ⟨k + 1, _, by go_num, rfl, hlt, by rw [HTK.out, HG.out, ← HST.out]; simp, by assumption⟩
        case measure => simp [intOf]; omega
    · obtain rfl : k = p.globals.length := by omega
      have hst2 : st.data.toList = p.globals.flatMap glT := by have := HST.out; rwa [List.take_length] at this
      have HGT : Hid ((p.globals.flatMap glT).length ≤ 100000000) := Lib.hid (by
        have h1 := flat_len (f := glT) (g := fun g : Gl => g.name.size + 30) (l := p.globals) (fun x hx => by
          obtain ⟨j, hj, rfl⟩ := List.getElem_of_mem hx
          obtain ⟨gb, go, _, hh⟩ := HP.out.gs.at (by omega)
          exact glT_len (hh j hj).b1) p.globals.length
        rw [List.take_length] at h1
        exact Nat.le_trans h1 HZ.out.g)
      obtain ⟨TG, hTG⟩ : ∃ TG, p.globals.flatMap glT = TG := ⟨_, rfl⟩
      rw [hTG] at hst2 HGT
      have HTG := Lib.hid hTG
      have HST2 := Lib.hid hst2
      obtain ⟨c0, c1, c2, c3, _⟩ := hb1
      clear hTG HST hst2
      rename World => wo
      go_wp2_with fail
      go_loopw [3, 5] (fun s3 s5 wr => ∃ (k : Nat) (st : ByteArray), s5 = .int .i64 (k : Int) ∧ s3 = .string st ∧ k ≤ p.layouts.length ∧ st.data.toList = TG ++ (p.layouts.take k).flatMap lyT ∧ Below (w.heap.size + 1) V0 wr) (fun _ s5 _ => p.layouts.length - (intOf s5).toNat)
      case atStart => exact ⟨0, st, rfl, rfl, Nat.zero_le _, by rw [HST2.out]; simp, HX.out⟩
      case round =>
        clear c0 c1 c2 c3
        obtain ⟨k, st, rfl, rfl, hk, hst, hx⟩ := hrel
        have HX := Lib.hid hx
        have HST := Lib.hid hst
        have hb1 := HKP.out _ hx
        clear hx hst
        by_cases hlt : k < p.layouts.length
        · obtain ⟨yb, yo, rfl, hh⟩ := HP.out.ls.at (by omega)
          have hly1 := hh k hlt
          have hI : ∀ j (hj : j < p.layouts.length), ∀ n ∈ p.layouts[j], i64 n := fun j hj n hn => by
            obtain ⟨A', c', _, _, _, hrow⟩ := (hh j hj).row
            obtain ⟨m, hm, rfl⟩ := List.getElem_of_mem hn
            obtain ⟨_, _, _, hq⟩ := hrow.at (by omega)
            exact (hq m hm).b0
          have HTK := Lib.hid (flat_take lyT hlt)
          have HLEN : Hid (((p.layouts.take (k + 1)).flatMap lyT).length ≤ 100000000) := Lib.hid (Nat.le_trans (flat_len (fun x hx => by
            obtain ⟨j, hj, rfl⟩ := List.getElem_of_mem hx
            exact lyT_len (hI j hj)) (k + 1)) HZ.out.y)
          have hli := hI k hlt
          have hll := HLY.out _ (List.getElem_mem hlt)
          obtain ⟨l, hg⟩ : ∃ l, p.layouts[k] = l := ⟨_, rfl⟩
          rw [hg] at hly1 HTK hli hll
          obtain ⟨hxg, A', c', cc, hc', hm', hrow⟩ := hly1
          rw [Nat.mul_one] at cc
          have HLI := Lib.hid hli
          have HROW := Lib.hid hrow
          have hss : st.size ≤ 200000000 := by
            rw [str_size HST.out, List.length_append]
            have h1 := HLEN.out
            rw [HTK.out, List.length_append] at h1
            have h2 := HGT.out
            omega
          have hll' : (l.length : Int) ≤ 1100000 := by omega
          have z1 : ¬ 9223372036854775807 < st.size + 6 := by omega
          have hS : ∀ V, Below (w.heap.size + 1) V0 V → V.cell? ⟨w.heap.size, 2, none⟩ = some (.slice (some ⟨yb, yo, none⟩) p.layouts.length cd) ∧ V.cell? ⟨yb, yo + k, none⟩ = some (.slice A' l.length c') := fun V hV => by
            obtain ⟨q0, q1, q2, q3, qb⟩ := HKP.out _ hV
            exact ⟨q2, (qb.cell (p := ⟨yb, yo + k, none⟩) hxg).trans cc⟩
          have HS := Lib.hid hS
          obtain ⟨r1, r2⟩ := hS _ HX.out
          obtain ⟨t1, ht1⟩ : ∃ t1, st.data.toList ++ [108, 97, 121, 111, 117, 116] = t1 := ⟨_, rfl⟩
          have HT1 := Lib.hid ht1
          have HT1L : Hid (t1.length ≤ 200000006) := Lib.hid (by rw [← ht1, List.length_append]; have e : st.data.toList.length = st.size := rfl; simp; omega)
          clear hg hh hI cc hS hrow hli ht1 hb1
          rename World => wo2
          go_wp2_with fail
          go_loopw [3, 6] (fun s3 s6 wr => ∃ (j : Nat) (st : ByteArray), s6 = .int .i64 (j : Int) ∧ s3 = .string st ∧ j ≤ l.length ∧ st.data.toList = t1 ++ numsT (l.take j) ∧ Below (w.heap.size + 1) V0 wr) (fun _ s6 _ => l.length - (intOf s6).toNat)
          case atStart => exact ⟨0, _, rfl, rfl, Nat.zero_le _, by rw [← HT1.out]; simp [numsT], HX.out⟩
          case round =>
            clear r1 r2
            obtain ⟨j, sj, rfl, rfl, hj, hsj, hx⟩ := hrel
            have HXJ := Lib.hid hx
            have HSJ := Lib.hid hsj
            obtain ⟨r1, r2⟩ := HS.out _ hx
            have hnl : (numsT (l.take j)).length ≤ 24200000 := Nat.le_trans (numsT_len (fun n hn => HLI.out n (List.mem_of_mem_take hn))) (by rw [List.length_take]; omega)
            have hsz : sj.size ≤ 300000000 := by rw [str_size hsj, List.length_append]; have := HT1L.out; omega
            clear hx hsj hnl
            by_cases hjl : j < l.length
            · obtain ⟨ib, io, rfl, hq⟩ := HROW.out.at (by omega)
              obtain ⟨hig, ic, ib1⟩ := hq j hjl
              rw [Nat.mul_one] at ic
              have HNK := Lib.hid (numsT_take hjl)
              obtain ⟨n, hn⟩ : ∃ n, l[j] = n := ⟨_, rfl⟩
              rw [hn] at ic ib1 HNK
              have icx := ((HKP.out _ HXJ.out).bel.cell (p := ⟨ib, io + j, none⟩) hig).trans ic
              obtain ⟨y, hy⟩ : ∃ y, txt (Lib.itoa n) = y := ⟨_, rfl⟩
              have hys : y.size ≤ 21 := by rw [← hy, txt_size]; exact itoa_len ib1
              have hnum := HNum.out n ib1
              rw [hy] at hnum
              have HNM := Lib.hid hnum
              have HYL : Hid (y.data.toList = Lib.itoa n) := Lib.hid (by rw [← hy]; rfl)
              have z2 : ¬ 9223372036854775807 < 1 + y.size := by omega
              have z3 : ¬ 9223372036854775807 < sj.size + (1 + y.size) := by omega
              clear hq hn hy hnum ic
              go_wp2_with fail
              refine (HNM.out _).mono ?_
              rintro e w4 ⟨rfl, hb4⟩
              have HX4 := Lib.hid (bstep hv0 HXJ.out hb4)
              clear hb4
              go_wp2
              go_roundw
              case rel => exact ⟨j + 1, _, by go_num, rfl, hjl, by rw [HNK.out, ← HYL.out, ← List.append_assoc, ← HSJ.out]; simp, HX4.out⟩
              case measure => simp [intOf]; omega
            · obtain rfl : j = l.length := by omega
              have HLT : Hid (sj.data.toList ++ [10] = st.data.toList ++ lyT l) := Lib.hid (by rw [HSJ.out, List.take_length, lyT_eq, ← HT1.out]; simp)
              have z4 : ¬ 9223372036854775807 < sj.size + 1 := by omega
              go_wp2
              go_roundw
              case rel => exact ⟨k + 1, _, by go_num, rfl, hlt, by rw [HTK.out, ← List.append_assoc, ← HST.out, ← HLT.out]; simp, HXJ.out⟩
              case measure => simp [intOf]; omega
        · obtain rfl : k = p.layouts.length := by omega
          have hst3 : st.data.toList = TG ++ p.layouts.flatMap lyT := by have := HST.out; rwa [List.take_length] at this
          have HYT : Hid ((p.layouts.flatMap lyT).length ≤ 100000000) := Lib.hid (by
            have h1 := flat_len (f := lyT) (g := fun l : List Int => 22 * l.length + 7) (l := p.layouts) (fun x hx => by
              obtain ⟨j, hj, rfl⟩ := List.getElem_of_mem hx
              obtain ⟨gb, go, _, hh⟩ := HP.out.ls.at (by omega)
              refine lyT_len fun n hn => ?_
              obtain ⟨A', c', _, _, _, hrow⟩ := (hh j hj).row
              obtain ⟨m, hm, rfl⟩ := List.getElem_of_mem hn
              obtain ⟨_, _, _, hq⟩ := hrow.at (by omega)
              exact (hq m hm).b0) p.layouts.length
            rw [List.take_length] at h1
            exact Nat.le_trans h1 HZ.out.y)
          obtain ⟨TY, hTY⟩ : ∃ TY, TG ++ p.layouts.flatMap lyT = TY := ⟨_, rfl⟩
          have HTYL : Hid (TY.length ≤ 200000000) := Lib.hid (by rw [← hTY, List.length_append]; have := HGT.out; have := HYT.out; omega)
          have HTY : Hid (textT p = TY ++ p.funcs.flatMap fnT) := Lib.hid (by rw [textT_eq, HTG.out, ← hTY, List.append_assoc])
          rw [hTY] at hst3
          have HST3 := Lib.hid hst3
          obtain ⟨c0, c1, c2, c3, _⟩ := hb1
          clear hTY hst3 HST HST2
          rename World => wo2
          go_wp2_with fail
          go_loopw [3, 7] (fun s3 s7 wr => ∃ (k : Nat) (st : ByteArray), s7 = .int .i64 (k : Int) ∧ s3 = .string st ∧ k ≤ p.funcs.length ∧ st.data.toList = TY ++ (p.funcs.take k).flatMap fnT ∧ Below (w.heap.size + 1) V0 wr) (fun _ s7 _ => p.funcs.length - (intOf s7).toNat)
          case atStart => exact ⟨0, st, rfl, rfl, Nat.zero_le _, by rw [HST3.out]; simp, HX.out⟩
          case round =>
            clear c0 c1 c2 c3
            obtain ⟨k, st, rfl, rfl, hk, hst, hx⟩ := hrel
            have HX := Lib.hid hx
            have HST := Lib.hid hst
            have hb1 := HKP.out _ hx
            clear hx hst
            by_cases hlt : k < p.funcs.length
            · obtain ⟨fb, fo, rfl, hh⟩ := HP.out.fs.at (by omega)
              have hB1 := hb1.bel
              obtain ⟨q0', q1', q2', q3', _⟩ := hb1
              obtain ⟨hxg, c0, c1, c2, hrow3, s0, b1, b2⟩ := hh k hlt
              obtain ⟨A', c', c3, hc', hm', hrow⟩ := hrow3
              have HROW := Lib.hid hrow
              have e0 := (hB1.cell (p := ⟨fb, fo + k * 4, none⟩) hxg).trans c0
              have e1 := (hB1.cell (p := ⟨fb, fo + k * 4 + 1, none⟩) hxg).trans c1
              have e2 := (hB1.cell (p := ⟨fb, fo + k * 4 + 2, none⟩) hxg).trans c2
              have e3 := (hB1.cell (p := ⟨fb, fo + k * 4 + 3, none⟩) hxg).trans c3
              have HTK := Lib.hid (flat_take fnT hlt)
              have hI3 : ∀ j (hj : j < p.funcs.length), ∀ x ∈ p.funcs[j].code, I3 x := fun j hj x hx => by
                obtain ⟨_, _, _, _, _, hr⟩ := (hh j hj).row
                obtain ⟨m, hm, rfl⟩ := List.getElem_of_mem hx
                obtain ⟨_, _, _, hq⟩ := hr.at (by omega)
                exact ⟨(hq m hm).b1, (hq m hm).b2, (hq m hm).b3⟩
              have hlenf : ∀ j (hj : j < p.funcs.length), (fnT p.funcs[j]).length ≤ p.funcs[j].name.size + 50 + 100 * p.funcs[j].code.length := fun j hj => by
                have q := hh j hj
                unfold fnT
                rw [List.length_append]
                have h1 := fnH_len q.b1 q.b2
                have h2 := codeT_len (l := p.funcs[j].code) (hI3 j hj) (by have := HL.out _ (List.getElem_mem hj); omega) p.funcs[j].code.length
                rw [List.take_length] at h2
                omega
              have HLEN : Hid (((p.funcs.take (k + 1)).flatMap fnT).length ≤ 200000000) := Lib.hid (Nat.le_trans (flat_len (fun x hx => by
                obtain ⟨j, hj, rfl⟩ := List.getElem_of_mem hx
                exact hlenf j hj) (k + 1)) HZ.out.f)
              have HFK : Hid (p.funcs[k].name.size + 50 + 100 * p.funcs[k].code.length ≤ 200000000) := Lib.hid (Nat.le_trans (in_sum (f := fun f : Fc => f.name.size + 50 + 100 * f.code.length) (List.getElem_mem hlt)) HZ.out.f)
              have hss : st.size ≤ 400000000 := by
                rw [str_size HST.out, List.length_append]
                have h1 := HLEN.out
                rw [HTK.out, List.length_append] at h1
                have h2 := HTYL.out
                omega
              have HFH := Lib.hid (fnH_len (f := p.funcs[k]) b1 b2)
              have HOPK := Lib.hid (HOP.out _ (List.getElem_mem hlt))
              have HI3 := Lib.hid (hI3 k hlt)
              have hLK := HL.out _ (List.getElem_mem hlt)
              obtain ⟨f, hg⟩ : ∃ f, p.funcs[k] = f := ⟨_, rfl⟩
              rw [hg] at e0 e1 e2 e3 HTK HFK HFH HOPK HI3 hLK b1 b2 HROW hc'
              have hns : f.name.size ≤ 200000000 := by have := HFK.out; omega
              have hLK' : (f.code.length : Int) ≤ 1100000 := by omega
              obtain ⟨y1, hy1⟩ : ∃ y, txt (Lib.itoa f.params) = y := ⟨_, rfl⟩
              obtain ⟨y2, hy2⟩ : ∃ y, txt (Lib.itoa f.regs) = y := ⟨_, rfl⟩
              have hys1 : y1.size ≤ 21 := by rw [← hy1, txt_size]; exact itoa_len b1
              have hys2 : y2.size ≤ 21 := by rw [← hy2, txt_size]; exact itoa_len b2
              have hn1 := HNum.out f.params b1
              have hn2 := HNum.out f.regs b2
              rw [hy1] at hn1
              rw [hy2] at hn2
              have HN1 := Lib.hid hn1
              have HN2 := Lib.hid hn2
              have HG : Hid (lineB (fnL f) = [102, 117, 110, 99, 32] ++ f.name.data.toList ++ [32] ++ y1.data.toList ++ [32] ++ y2.data.toList ++ [10]) := Lib.hid (by rw [fnH_eq, ← hy1, ← hy2]; simp [numsT, txt])
              have z1 : ¬ 9223372036854775807 < 5 + f.name.size := by omega
              have z2 : ¬ 9223372036854775807 < 5 + f.name.size + 1 := by omega
              have z3 : ¬ 9223372036854775807 < 5 + f.name.size + 1 + y1.size := by omega
              have z4 : ¬ 9223372036854775807 < 5 + f.name.size + 1 + y1.size + 1 := by omega
              have z5 : ¬ 9223372036854775807 < 5 + f.name.size + 1 + y1.size + 1 + y2.size := by omega
              have z6 : ¬ 9223372036854775807 < 5 + f.name.size + 1 + y1.size + 1 + y2.size + 1 := by omega
              have z7 : ¬ 9223372036854775807 < st.size + (5 + f.name.size + 1 + y1.size + 1 + y2.size + 1) := by omega
              have hwr : wr.heap.size + 1 ≤ (wr.alloc (fO f (.slice A' f.code.length c'))).heap.size := by simp
              have hS1 : ∀ V, Below (wr.heap.size + 1) (wr.alloc (fO f (.slice A' f.code.length c'))) V → V.cell? ⟨wr.heap.size, 0, none⟩ = some (.string f.name) ∧ V.cell? ⟨wr.heap.size, 1, none⟩ = some (.int .i64 f.params) ∧ V.cell? ⟨wr.heap.size, 2, none⟩ = some (.int .i64 f.regs) ∧ V.cell? ⟨wr.heap.size, 3, none⟩ = some (.slice A' f.code.length c') ∧ Below (wr.heap.size + 1) (wr.alloc (fO f (.slice A' f.code.length c'))) V := fun V hV => by
                obtain ⟨g0, g1, g2, g3⟩ := fcells ((hV.block wr.heap.size (by omega)).trans (heap_alloc_new wr (fO f (.slice A' f.code.length c'))))
                exact ⟨g0, g1, g2, g3, hV⟩
              have HS1 := Lib.hid hS1
              have HPP : Hid (∀ V, Below (wr.heap.size + 1) (wr.alloc (fO f (.slice A' f.code.length c'))) V → Below (w.heap.size + 1) V0 V) := Lib.hid fun V hV => (bstep hv0 HX.out (below1 wr _)).trans (hV.mono (by have := HX.out.size; omega))
              obtain ⟨g0, g1, g2, g3, _⟩ := hS1 _ (Below.refl _ _)
              obtain ⟨t0, ht0⟩ : ∃ t0, st.data.toList ++ lineB (fnL f) = t0 := ⟨_, rfl⟩
              have HT0 := Lib.hid ht0
              have HT0L : Hid (t0.length ≤ 700000000) := Lib.hid (by rw [← ht0, List.length_append]; have e : st.data.toList.length = st.size := rfl; have h6 := HFH.out; omega)
              have HT1 : Hid (TY ++ (p.funcs.take (k + 1)).flatMap fnT = t0 ++ codeT 0 f.code) := Lib.hid (by rw [HTK.out, ← ht0, HST.out]; unfold fnT; simp)
              clear hg hh hlenf hI3 c0 c1 c2 c3 hrow s0 hm' hy1 hy2 hn1 hn2 hS1 ht0 hB1
              rename World => wo3
              go_upto_region 19 with fail
              go_region_held3 (fun V => V.cell? ⟨wo3.heap.size, 0, none⟩ = some (.string f.name) ∧ V.cell? ⟨wo3.heap.size, 1, none⟩ = some (.int .i64 f.params) ∧ V.cell? ⟨wo3.heap.size, 2, none⟩ = some (.int .i64 f.regs) ∧ V.cell? ⟨wo3.heap.size, 3, none⟩ = some (.slice A' f.code.length c') ∧ Below (wo3.heap.size + 1) (wo3.alloc (fO f (.slice A' f.code.length c'))) V)
                (first
                  | exact HS1.out _ (Below.drew (Below.refl _ _))
                  | (go_split_ands; exact HS1.out _ (bstep hwr (by assumption) hb)))
                (first
                  | (go_at_call 24; (with_reducible refine (HN1.out _).mono ?_); rintro e w' ⟨rfl, hb⟩)
                  | (go_at_call 24; (with_reducible refine (HN2.out _).mono ?_); rintro e w' ⟨rfl, hb⟩))
              all_goals go_split_ands
              have HWS : Hid (Below (wo3.heap.size + 1) (wo3.alloc (fO f (.slice A' f.code.length c'))) w') := Lib.hid (by assumption)
              clear g0 g1 g2 g3
              obtain ⟨W1, hW1⟩ : ∃ W1, wo3.alloc (fO f (.slice A' f.code.length c')) = W1 := ⟨_, rfl⟩
              rw [hW1] at HWS HS1 HPP hwr
              clear hW1
              go_wp2_with fail
              go_loopw [3, 9] (fun s3 s9 wr => ∃ (j : Nat) (sj : ByteArray), s9 = .int .i64 (j : Int) ∧ s3 = .string sj ∧ j ≤ f.code.length ∧ sj.data.toList = t0 ++ codeT 0 (f.code.take j) ∧ Below (wo3.heap.size + 1) W1 wr) (fun _ s9 _ => f.code.length - (intOf s9).toNat)
              case atStart => exact ⟨0, _, rfl, rfl, Nat.zero_le _, by rw [← HT0.out, HG.out]; simp [codeT, codeLs], HWS.out⟩
              case round =>
                obtain ⟨j, sj, rfl, rfl, hj, hsj, hx⟩ := hrel
                have HXJ := Lib.hid hx
                have HSJ := Lib.hid hsj
                obtain ⟨g0, g1, g2, g3, _⟩ := HS1.out _ hx
                have hcl := codeT_len HI3.out (by omega) j
                have hsz : sj.size ≤ 900000000 := by rw [str_size hsj, List.length_append]; have := HT0L.out; omega
                clear hx hsj hcl
                by_cases hjl : j < f.code.length
                · obtain ⟨ib, io, rfl, hq⟩ := HROW.out.at (by omega)
                  obtain ⟨hig, x0, x1, x2, x3, x4, xb0, xb1, xb2, xb3, xb4⟩ := (hq j hjl).below (HKP.out _ (HPP.out _ HXJ.out)).bel
                  have HNK := Lib.hid (codeT_take hjl)
                  obtain ⟨ho1, ho2⟩ := HOPK.out _ (List.getElem_mem hjl)
                  have HI3x := Lib.hid (HI3.out _ (List.getElem_mem hjl))
                  obtain ⟨x, hxe⟩ : ∃ x, f.code[j] = x := ⟨_, rfl⟩
                  rw [hxe] at x0 x1 x2 x3 x4 xb0 xb1 xb2 xb3 xb4 HNK ho1 ho2 HI3x
                  have hji : i64 (j : Int) := by unfold i64; omega
                  obtain ⟨y, hy⟩ : ∃ y, txt (Lib.itoa (j : Int)) = y := ⟨_, rfl⟩
                  have hys : y.size ≤ 21 := by rw [← hy, txt_size]; exact itoa_len hji
                  have hnum := HNum.out (j : Int) hji
                  rw [hy] at hnum
                  have HNM := Lib.hid hnum
                  obtain ⟨wd, hwd⟩ : ∃ y, txt (wordT x.op) = y := ⟨_, rfl⟩
                  have hws : wd.size ≤ 7 := by rw [← hwd, txt_size]; exact word_len _
                  have HWRD : Hid (∀ V, Calls Tryd.prog 25 #[.int .i64 x.op] V fun e w' => e = .returned (.string wd) ∧ Below V.heap.size V w') := Lib.hid fun V => by have := rword_any x.op (by omega) (by omega) V; rw [hwd] at this; exact this
                  obtain ⟨q0, q1, q2, hr⟩ := roles_some ho1 ho2
                  have HUS := Lib.hid (used_uL2 hr)
                  obtain ⟨r, hrr⟩ : ∃ s, txt [q0, q1, q2] = s := ⟨_, rfl⟩
                  have HR : Hid (∀ V, Calls Tryd.prog 26 #[.int .i64 x.op] V fun e w' => e = .returned (.string r) ∧ V = w') := Lib.hid fun V => by have := roles_any x.op V; rw [hr, hrr] at this; exact this
                  have r3 : r.size = 3 := by rw [← hrr]; rfl
                  have i0 : r[0].toNat = q0.toNat := by subst hrr; rfl
                  have i1 : r[1].toNat = q1.toNat := by subst hrr; rfl
                  have i2 : r[2].toNat = q2.toNat := by subst hrr; rfl
                  have n1 : ¬ r.toList = [] := by rw [ByteArray.toList_eq, ← hrr]; simp [txt]
                  have n2 : r.toList.isEmpty = false := by simp [n1]
                  have d0 : (0 : Int) < (r.size : Int) := by omega
                  have d1 : (1 : Int) < (r.size : Int) := by omega
                  have d2 : (2 : Int) < (r.size : Int) := by omega
                  obtain ⟨t0', hq0⟩ : ∃ t, q0.toNat = t := ⟨_, rfl⟩
                  rw [hq0] at i0
                  obtain ⟨t1', hq1⟩ : ∃ t, q1.toNat = t := ⟨_, rfl⟩
                  rw [hq1] at i1
                  obtain ⟨t2', hq2⟩ : ∃ t, q2.toNat = t := ⟨_, rfl⟩
                  rw [hq2] at i2
                  have HQI0 := Lib.hid hq0
                  have HQI1 := Lib.hid hq1
                  have HQI2 := Lib.hid hq2
                  have z1 : ¬ 9223372036854775807 < 1 + y.size := by omega
                  have z2 : ¬ 9223372036854775807 < 1 + y.size + 1 := by omega
                  have z3 : ¬ 9223372036854775807 < 1 + y.size + 1 + wd.size := by omega
                  have z4 : ¬ 9223372036854775807 < sj.size + (1 + y.size + 1 + wd.size) := by omega
                  obtain ⟨u1, hu1⟩ : ∃ u1, sj.data.toList ++ ([9] ++ y.data.toList ++ [32] ++ wd.data.toList) = u1 := ⟨_, rfl⟩
                  have HU1 := Lib.hid hu1
                  have HU1L : Hid (u1.length ≤ 900000100) := Lib.hid (by rw [← hu1]; have e1 : sj.data.toList.length = sj.size := rfl; have e2 : y.data.toList.length = y.size := rfl; have e3 : wd.data.toList.length = wd.size := rfl; simp only [List.length_append, List.length_cons, List.length_nil]; omega)
                  have HLN : Hid (sj.data.toList ++ lineT j x = u1 ++ numsT (uL [q0, q1, q2] [x.a, x.b, x.c] 3) ++ [10]) := Lib.hid (by rw [lineT_eq, ← hu1, ← HUS.out, ← hy, ← hwd]; simp [txt])
                  have hwr2 : wr.heap.size + 1 ≤ (wr.alloc (xO x)).heap.size := by simp
                  have hS2 : ∀ V, Below (wr.heap.size + 1) (wr.alloc (xO x)) V → V.cell? ⟨wr.heap.size, 0, none⟩ = some (.int .i64 x.op) ∧ V.cell? ⟨wr.heap.size, 1, none⟩ = some (.int .i64 x.a) ∧ V.cell? ⟨wr.heap.size, 2, none⟩ = some (.int .i64 x.b) ∧ V.cell? ⟨wr.heap.size, 3, none⟩ = some (.int .i64 x.c) ∧ Below (wr.heap.size + 1) (wr.alloc (xO x)) V := fun V hV => by
                    have e := (hV.block wr.heap.size (by omega)).trans (heap_alloc_new wr (xO x))
                    exact ⟨by simp [World.cell?, e], by simp [World.cell?, e], by simp [World.cell?, e], by simp [World.cell?, e], hV⟩
                  have HS2 := Lib.hid hS2
                  have HPJ : Hid (∀ V, Below (wr.heap.size + 1) (wr.alloc (xO x)) V → Below (wo3.heap.size + 1) W1 V) := Lib.hid fun V hV => (bstep hwr HXJ.out (below1 wr _)).trans (hV.mono (by have := HXJ.out.size; omega))
                  obtain ⟨h0, h1, h2, h3, _⟩ := hS2 _ (Below.refl _ _)
                  clear hq hxe hy hnum hwd hr hrr hq0 hq1 hq2 hu1 hS2 xb0 xb1 xb2 xb3 xb4 hji
                  rename World => wo4
                  go_upto_region 24 with fail
                  go_region_held3 (fun V => V.cell? ⟨wo4.heap.size, 0, none⟩ = some (.int .i64 x.op) ∧ V.cell? ⟨wo4.heap.size, 1, none⟩ = some (.int .i64 x.a) ∧ V.cell? ⟨wo4.heap.size, 2, none⟩ = some (.int .i64 x.b) ∧ V.cell? ⟨wo4.heap.size, 3, none⟩ = some (.int .i64 x.c) ∧ Below (wo4.heap.size + 1) (wo4.alloc (xO x)) V)
                    (first
                      | exact HS2.out _ (Below.drew (Below.refl _ _))
                      | (go_split_ands; exact HS2.out _ (bstep hwr2 (by assumption) hb)))
                    (first
                      | (go_at_call 24; (with_reducible refine (HNM.out _).mono ?_); rintro e w' ⟨rfl, hb⟩)
                      | (go_at_call 25; (with_reducible refine (HWRD.out _).mono ?_); rintro e w' ⟨rfl, hb⟩))
                  all_goals go_split_ands
                  have HW2 : Hid (Below (wo4.heap.size + 1) (wo4.alloc (xO x)) w') := Lib.hid (by assumption)
                  clear h0 h1 h2 h3
                  obtain ⟨h0, h1, h2, h3, _⟩ := HS2.out _ HW2.out
                  go_wp2_with fail
                  refine (HR.out _).mono ?_
                  rintro e w5 ⟨rfl, rfl⟩
                  have HARR := Lib.hid (heap_alloc_new w' (.cells #[.int .i64 x.a, .int .i64 x.b, .int .i64 x.c] 59))
                  have HPA : Hid (∀ V, Below (w'.heap.size + 1) (w'.alloc (.cells #[.int .i64 x.a, .int .i64 x.b, .int .i64 x.c] 59)) V → Below (wo3.heap.size + 1) W1 V) := Lib.hid fun V hV => HPJ.out _ ((bstep hwr2 HW2.out (below1 w' _)).trans (hV.mono (by have := HW2.out.size; omega)))
                  clear h0 h1 h2 h3
                  go_wp2_with fail
                  go_loopw [3, 13] (fun s3 s13 wr => ∃ (i : Nat) (si : ByteArray), s13 = .int .i64 (i : Int) ∧ s3 = .string si ∧ i ≤ 3 ∧ si.data.toList = u1 ++ numsT (uL [q0, q1, q2] [x.a, x.b, x.c] i) ∧ Below (w'.heap.size + 1) (w'.alloc (.cells #[.int .i64 x.a, .int .i64 x.b, .int .i64 x.c] 59)) wr) (fun _ s13 _ => 3 - (intOf s13).toNat)
                  case atStart => exact ⟨0, _, rfl, rfl, Nat.zero_le _, by rw [← HU1.out]; simp [uL, numsT], Below.refl _ _⟩
                  case round =>
                    obtain ⟨i, si, rfl, rfl, hi, hsi, hx⟩ := hrel
                    have HXI := Lib.hid hx
                    have HSI := Lib.hid hsi
                    have hul := uL_len [q0, q1, q2] [x.a, x.b, x.c] i
                    have hun := numsT_len (uL_i64 HI3x.out i hi (q := [q0, q1, q2]))
                    have hsz2 : si.size ≤ 1000000000 := by rw [str_size hsi, List.length_append]; have := HU1L.out; omega
                    have ea := (hx.block w'.heap.size (by omega)).trans HARR.out
                    have a0 : wr.cell? ⟨w'.heap.size, 0, none⟩ = some (.int .i64 x.a) := by simp [World.cell?, ea]
                    have a1 : wr.cell? ⟨w'.heap.size, 1, none⟩ = some (.int .i64 x.b) := by simp [World.cell?, ea]
                    have a2 : wr.cell? ⟨w'.heap.size, 2, none⟩ = some (.int .i64 x.c) := by simp [World.cell?, ea]
                    clear hx hsi hul hun ea
                    by_cases hil : i < 3
                    · obtain rfl | rfl | rfl : i = 0 ∨ i = 1 ∨ i = 2 := by omega
                      · skip
                        by_cases e45 : t0' = 45
                        · subst e45
                          have HU1 : Hid (uL [q0, q1, q2] [x.a, x.b, x.c] (0 + 1) = uL [q0, q1, q2] [x.a, x.b, x.c] 0) := Lib.hid (uL_skip (q := [q0, q1, q2]) (i := 0) HQI0.out)
                          go_wp2_with fail
                          go_roundw
                          case rel => exact ⟨0 + 1, si, by first | rfl | go_num, rfl, by omega, by rw [HU1.out]; exact HSI.out, HXI.out⟩
                          case measure => simp [intOf]
                        · have e45' : ¬ (t0' : Int) = 45 := by omega
                          have HU1 : Hid (uL [q0, q1, q2] [x.a, x.b, x.c] (0 + 1) = uL [q0, q1, q2] [x.a, x.b, x.c] 0 ++ [x.a]) := Lib.hid (uL_take (q := [q0, q1, q2]) (vs := [x.a, x.b, x.c]) (i := 0) (fun e => e45 (HQI0.out.symm.trans e)))
                          obtain ⟨y, hy⟩ : ∃ y, txt (Lib.itoa x.a) = y := ⟨_, rfl⟩
                          have hys : y.size ≤ 21 := by rw [← hy, txt_size]; exact itoa_len HI3x.out.1
                          have hnum := HNum.out x.a HI3x.out.1
                          rw [hy] at hnum
                          have HNM := Lib.hid hnum
                          have HYL : Hid (y.data.toList = Lib.itoa x.a) := Lib.hid (by rw [← hy]; rfl)
                          have z2 : ¬ 9223372036854775807 < 1 + y.size := by omega
                          have z3 : ¬ 9223372036854775807 < si.size + (1 + y.size) := by omega
                          clear hy hnum e45
                          go_wp2_with fail
                          refine (HNM.out _).mono ?_
                          rintro e w9 ⟨rfl, hb9⟩
                          have HX9 := Lib.hid (bstep (by simp) HXI.out hb9)
                          clear hb9
                          go_wp2
                          go_roundw
                          case rel => exact ⟨0 + 1, _, by first | rfl | go_num, rfl, by omega, by rw [HU1.out, numsT_snoc, ← HYL.out, ← List.append_assoc, ← HSI.out]; simp, HX9.out⟩
                          case measure => simp [intOf]
                      · skip
                        by_cases e45 : t1' = 45
                        · subst e45
                          have HU1 : Hid (uL [q0, q1, q2] [x.a, x.b, x.c] (1 + 1) = uL [q0, q1, q2] [x.a, x.b, x.c] 1) := Lib.hid (uL_skip (q := [q0, q1, q2]) (i := 1) HQI1.out)
                          go_wp2_with fail
                          go_roundw
                          case rel => exact ⟨1 + 1, si, by first | rfl | go_num, rfl, by omega, by rw [HU1.out]; exact HSI.out, HXI.out⟩
                          case measure => simp [intOf]
                        · have e45' : ¬ (t1' : Int) = 45 := by omega
                          have HU1 : Hid (uL [q0, q1, q2] [x.a, x.b, x.c] (1 + 1) = uL [q0, q1, q2] [x.a, x.b, x.c] 1 ++ [x.b]) := Lib.hid (uL_take (q := [q0, q1, q2]) (vs := [x.a, x.b, x.c]) (i := 1) (fun e => e45 (HQI1.out.symm.trans e)))
                          obtain ⟨y, hy⟩ : ∃ y, txt (Lib.itoa x.b) = y := ⟨_, rfl⟩
                          have hys : y.size ≤ 21 := by rw [← hy, txt_size]; exact itoa_len HI3x.out.2.1
                          have hnum := HNum.out x.b HI3x.out.2.1
                          rw [hy] at hnum
                          have HNM := Lib.hid hnum
                          have HYL : Hid (y.data.toList = Lib.itoa x.b) := Lib.hid (by rw [← hy]; rfl)
                          have z2 : ¬ 9223372036854775807 < 1 + y.size := by omega
                          have z3 : ¬ 9223372036854775807 < si.size + (1 + y.size) := by omega
                          clear hy hnum e45
                          go_wp2_with fail
                          refine (HNM.out _).mono ?_
                          rintro e w9 ⟨rfl, hb9⟩
                          have HX9 := Lib.hid (bstep (by simp) HXI.out hb9)
                          clear hb9
                          go_wp2
                          go_roundw
                          case rel => exact ⟨1 + 1, _, by first | rfl | go_num, rfl, by omega, by rw [HU1.out, numsT_snoc, ← HYL.out, ← List.append_assoc, ← HSI.out]; simp, HX9.out⟩
                          case measure => simp [intOf]
                      · skip
                        by_cases e45 : t2' = 45
                        · subst e45
                          have HU1 : Hid (uL [q0, q1, q2] [x.a, x.b, x.c] (2 + 1) = uL [q0, q1, q2] [x.a, x.b, x.c] 2) := Lib.hid (uL_skip (q := [q0, q1, q2]) (i := 2) HQI2.out)
                          go_wp2_with fail
                          go_roundw
                          case rel => exact ⟨2 + 1, si, by first | rfl | go_num, rfl, by omega, by rw [HU1.out]; exact HSI.out, HXI.out⟩
                          case measure => simp [intOf]
                        · have e45' : ¬ (t2' : Int) = 45 := by omega
                          have HU1 : Hid (uL [q0, q1, q2] [x.a, x.b, x.c] (2 + 1) = uL [q0, q1, q2] [x.a, x.b, x.c] 2 ++ [x.c]) := Lib.hid (uL_take (q := [q0, q1, q2]) (vs := [x.a, x.b, x.c]) (i := 2) (fun e => e45 (HQI2.out.symm.trans e)))
                          obtain ⟨y, hy⟩ : ∃ y, txt (Lib.itoa x.c) = y := ⟨_, rfl⟩
                          have hys : y.size ≤ 21 := by rw [← hy, txt_size]; exact itoa_len HI3x.out.2.2
                          have hnum := HNum.out x.c HI3x.out.2.2
                          rw [hy] at hnum
                          have HNM := Lib.hid hnum
                          have HYL : Hid (y.data.toList = Lib.itoa x.c) := Lib.hid (by rw [← hy]; rfl)
                          have z2 : ¬ 9223372036854775807 < 1 + y.size := by omega
                          have z3 : ¬ 9223372036854775807 < si.size + (1 + y.size) := by omega
                          clear hy hnum e45
                          go_wp2_with fail
                          refine (HNM.out _).mono ?_
                          rintro e w9 ⟨rfl, hb9⟩
                          have HX9 := Lib.hid (bstep (by simp) HXI.out hb9)
                          clear hb9
                          go_wp2
                          go_roundw
                          case rel => exact ⟨2 + 1, _, by first | rfl | go_num, rfl, by omega, by rw [HU1.out, numsT_snoc, ← HYL.out, ← List.append_assoc, ← HSI.out]; simp, HX9.out⟩
                          case measure => simp [intOf]
                    · obtain rfl : i = 3 := by omega
                      have z5 : ¬ 9223372036854775807 < si.size + 1 := by omega
                      have HE : Hid (si.data.toList ++ [10] = t0 ++ codeT 0 (f.code.take (j + 1))) := Lib.hid (by rw [HNK.out, ← List.append_assoc, ← HSJ.out, HLN.out, HSI.out])
                      have HXE := Lib.hid (HPA.out _ HXI.out)
                      go_wp2
                      go_roundw
                      case rel => exact ⟨j + 1, _, by go_num, rfl, hjl, by rw [← HE.out]; simp, HXE.out⟩
                      case measure => simp [intOf]; omega
                · obtain rfl : j = f.code.length := by omega
                  have HE : Hid (sj.data.toList = TY ++ (p.funcs.take (k + 1)).flatMap fnT) := Lib.hid (by rw [HT1.out]; have := HSJ.out; rwa [List.take_length] at this)
                  have HXE := Lib.hid (HPP.out _ HXJ.out)
                  go_wp2
                  go_roundw
                  case rel => exact ⟨k + 1, sj, by go_num, rfl, hlt, HE.out, HXE.out⟩
                  case measure => simp [intOf]; omega
            · obtain rfl : k = p.funcs.length := by omega
              have HF : Hid (st = txt (textT p)) := Lib.hid (txt_of (by rw [HTY.out]; have := HST.out; rwa [List.take_length] at this))
              obtain ⟨q0', q1', q2', q3', qb'⟩ := hb1
              have HB4 := Lib.hid qb'
              clear qb'
              go_wp2
              go_ret
              rw [← HF.out]
              exact ⟨rfl, HB4.out⟩
end Go.Proofs.YtekfhgldebhigaaDoor
