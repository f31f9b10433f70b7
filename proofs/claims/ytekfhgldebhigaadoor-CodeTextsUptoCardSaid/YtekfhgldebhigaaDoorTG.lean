/-
  The program's Text.
-/
import Derived.Test.YtekfhgldebhigaaDoorTF
import Derived.Test.YtekfhgldebhigaaDoorCF
set_option linter.all false
namespace Go.Proofs.YtekfhgldebhigaaDoor
open Go.RowKit C
set_option maxRecDepth 100000
/-- Bounds on a program's text. -/
structure Bz (p : Pg) : Prop where
  g : (p.globals.map fun g => g.name.size + 30).sum ≤ 100000000
  y : (p.layouts.map fun l => 22 * l.length + 7).sum ≤ 100000000
  f : (p.funcs.map fun f => f.name.size + 50 + 100 * f.code.length).sum ≤ 200000000
theorem in_sum {α : Type} {f : α → Nat} {l : List α} {x : α} (h : x ∈ l) : f x ≤ (l.map f).sum := by
  induction l with
  | nil => cases h
  | cons a l ih =>
    simp only [List.map_cons, List.sum_cons]
    rcases List.mem_cons.1 h with rfl | h
    · omega
    · have := ih h; omega
abbrev gO (g : Gl) : Obj := .cells #[.string g.name, .int .i64 g.kind] 45 (0, 0)
abbrev pbO (p : Pg) (A B D : Option Addr) (ca cb cd : Nat) : Obj := .cells #[.slice A p.funcs.length ca, .slice B p.globals.length cb, .slice D p.layouts.length cd, .int .i64 p.main] 26
/-- What stands in Text. -/
structure Tx (w V0 : World) (b : Nat) (t : Bs) (V : World) : Prop where
  bd : Bd V (w.heap.size + 1) b t
  bel : Below (w.heap.size + 1) V0 V
  tb : Tb V
theorem Tx.step {w V0 V V' : World} {b : Nat} {t : Bs} (h : Tx w V0 b t V) (hb : Below V.heap.size V V') : Tx w V0 b t V' := ⟨h.bd.keep hb, h.bel.trans (hb.mono h.bd.hB), h.tb.step hb⟩
theorem gcells {V : World} {xb : Nat} {g : Gl} (h : V.heap[xb]? = some (gO g)) : V.cell? ⟨xb, 0, none⟩ = some (.string g.name) ∧ V.cell? ⟨xb, 1, none⟩ = some (.int .i64 g.kind) := by simp [World.cell?, h]
abbrev fO (f : Fc) (v : Value) : Obj := .cells #[.string f.name, .int .i64 f.params, .int .i64 f.regs, v] 37 (0, 0)
theorem fcells {V : World} {xb : Nat} {f : Fc} {v : Value} (h : V.heap[xb]? = some (fO f v)) : V.cell? ⟨xb, 0, none⟩ = some (.string f.name) ∧ V.cell? ⟨xb, 1, none⟩ = some (.int .i64 f.params) ∧ V.cell? ⟨xb, 2, none⟩ = some (.int .i64 f.regs) ∧ V.cell? ⟨xb, 3, none⟩ = some v := by simp [World.cell?, h]
theorem heap2' (w : World) (o1 o2 : Obj) : ((w.alloc o1).alloc o2).heap[w.heap.size + 1]? = some o2 := by
  have h := heap_alloc_new (w.alloc o1) o2
  rw [World.size_alloc] at h; exact h
theorem heap2a' (w : World) (o1 o2 : Obj) : ((w.alloc o1).alloc o2).heap[w.heap.size]? = some o1 := (heap_alloc_old _ _ (by simp)).trans (heap_alloc_new w o1)
set_option maxHeartbeats 8000000 in
theorem ctext_any (p : Pg) (A B D : Option Addr) (ca cb cd : Nat) (w : World) (hp : PgAt w p A B D ca cb cd) (hz : Bz p) (hop : ∀ f ∈ p.funcs, ∀ x ∈ f.code, 1 ≤ x.op ∧ x.op ≤ 52) (hl : ∀ f ∈ p.funcs, f.code.length ≤ 1100000) (hly : ∀ l ∈ p.layouts, l.length ≤ 1100000) (hT : Tb w) :
    Calls Tryd.prog 7 #[pv p A B D ca cb cd] w fun e w' => e = .returned (.string (txt (textT p))) ∧ Below w.heap.size w w' := by
  have HP := Lib.hid hp
  have HZ := Lib.hid hz
  have HOP := Lib.hid hop
  have HL := Lib.hid hl
  have HLY := Lib.hid hly
  have HTB := Lib.hid hT
  have H6 := hT.sz
  have HN := Lib.hid (B1.new p A B D ca cb cd w)
  have hsz0 : (w.alloc (pbO p A B D ca cb cd)).heap.size = w.heap.size + 1 := by simp
  have hbd := Bd.new (w.alloc (pbO p A B D ca cb cd))
  rw [hsz0] at hbd
  obtain ⟨V0, hb0, hkp⟩ : ∃ V0, Tx w V0 (w.heap.size + 1) [] ((w.alloc (pbO p A B D ca cb cd)).alloc (.cells #[.pointer none, .slice none 0 0] 50)) ∧ ∀ V, Below (w.heap.size + 1) V0 V → B1 p A B D ca cb cd w V :=
    ⟨w.alloc (pbO p A B D ca cb cd), ⟨hbd, by have := below1 (w.alloc (pbO p A B D ca cb cd)) (.cells #[.pointer none, .slice none 0 0] 50); rwa [hsz0] at this, (hT.step (below1 w _)).step (below1 _ _)⟩, fun V hV => HN.out.keep (by rw [hsz0]; exact hV)⟩
  have HB0 := Lib.hid hb0
  have HKP := Lib.hid hkp
  have hG1 : (p.globals.length : Int) ≤ 9223372036854775807 := by have := hp.kb.2; unfold maxLen at this; omega
  have hG2 : (p.layouts.length : Int) ≤ 9223372036854775807 := by have := hp.kd.2; unfold maxLen at this; omega
  have hG3 : (p.funcs.length : Int) ≤ 9223372036854775807 := by have := hp.ka.2; unfold maxLen at this; omega
  clear hp hz hop hl hly hT hbd hsz0 hb0 hkp
  go_enter Tryd.func7, Tryd.ntmps7
  go_wp2_with fail
  go_loopw [13] (fun s13 wr => ∃ k : Nat, s13 = .int .i64 (k : Int) ∧ k ≤ p.globals.length ∧ Tx w V0 (w.heap.size + 1) ((p.globals.take k).flatMap glT) wr) (fun s13 _ => p.globals.length - (intOf s13).toNat)
  case atStart => exact ⟨0, rfl, Nat.zero_le _, HB0.out⟩
  case round =>
    obtain ⟨k, rfl, hk, hx⟩ := hrel
    have HX := Lib.hid hx
    have hb1 := HKP.out _ hx.bel
    clear hx
    by_cases hlt : k < p.globals.length
    · obtain ⟨gb, go, rfl, hh⟩ := HP.out.gs.at (by omega)
      obtain ⟨hxg, c0, c1, s0, b1⟩ := (hh k hlt).below hb1.bel
      have HTK := Lib.hid (flat_take glT hlt)
      have HGL := Lib.hid (glT_len (g := p.globals[k]) b1)
      have HLEN : Hid (((p.globals.take (k + 1)).flatMap glT).length ≤ 100000000) := Lib.hid (Nat.le_trans (flat_len (fun x hx => by
        obtain ⟨j, hj, rfl⟩ := List.getElem_of_mem hx
        exact glT_len (hh j hj).b1) (k + 1)) HZ.out.g)
      have hns : p.globals[k].name.size ≤ 100000000 := by
        have h1 := in_sum (f := fun g : Gl => g.name.size + 30) (List.getElem_mem hlt)
        have h2 := HZ.out.g
        omega
      obtain ⟨g, hg⟩ : ∃ g, p.globals[k] = g := ⟨_, rfl⟩
      rw [hg] at c0 c1 s0 b1 HTK HGL hns
      clear hg hh
      obtain ⟨z, hz⟩ : ∃ z, txt (numsT [g.kind]) = z := ⟨_, rfl⟩
      have hzs : z.size ≤ 22 := by
        rw [← hz, txt_size]
        exact numsT_len (l := [g.kind]) (by intro n hn; obtain rfl : n = g.kind := by simpa using hn
                                            exact b1)
      have HG : Hid (glT g = [103, 108, 111, 98, 97, 108, 32] ++ g.name.data.toList ++ z.data.toList ++ [10]) := Lib.hid (by rw [glT_eq, ← hz]; rfl)
      have HDm : Hid (∀ V xb c, Tx w V0 (w.heap.size + 1) ((p.globals.take k).flatMap glT) V → V.heap[xb]? = some (.cells #[.int .i64 g.kind] 3 (0, 0)) → Calls Tryd.prog 21 #[.slice (some ⟨xb, 0, none⟩) 1 c] V fun e w' => e = .returned (.string z) ∧ Tx w V0 (w.heap.size + 1) ((p.globals.take k).flatMap glT) w' ∧ Below V.heap.size V w') := Lib.hid fun V xb c hV hb => by
        have hrow : Row 1 (IntAt V) (some ⟨xb, 0, none⟩) [g.kind] := .inr ⟨xb, 0, rfl, fun i hi => by
          obtain rfl : i = 0 := by simpa using hi
          exact ⟨(Array.getElem?_eq_some_iff.1 hb).1, by simp [World.cell?, hb], b1⟩⟩
        have := decimals_any (some ⟨xb, 0, none⟩) [g.kind] c V hrow hV.tb (by simp)
        rw [hz] at this
        exact this.mono fun e w' h => ⟨h.1, hV.step h.2, h.2⟩
      have HWR : Hid (∀ V s, Tx w V0 (w.heap.size + 1) ((p.globals.take k).flatMap glT) V → s.data.toList = glT g → Calls Tryd.prog 20 #[.pointer (some ⟨w.heap.size + 1, 0, none⟩), .string s] V fun e w' => (∃ v, e = .returned v) ∧ Tx w V0 (w.heap.size + 1) ((p.globals.take (k + 1)).flatMap glT) w') := Lib.hid fun V s hV hs => by
        refine (write_any _ _ _ s V hV.bd ?_).mono fun e w' ⟨h1, h2, h3, h4⟩ => ⟨h1, ?_, hV.bel.trans h3, hV.tb.below h3 (by omega)⟩
        · have h1 := HLEN.out
          rw [HTK.out, List.length_append] at h1
          rw [hs]
          show _ ≤ 140737488355328
          omega
        · rw [HTK.out, ← hs]; exact h2
      have H0 := Lib.hid (HX.out.step (below1 wr (gO g)))
      obtain ⟨m0, m1⟩ := gcells (heap_alloc_new wr (gO g))
      have z1 : ¬ 9223372036854775807 < 7 + g.name.size := by omega
      have z2 : ¬ 9223372036854775807 < 7 + g.name.size + z.size := by omega
      have z3 : ¬ 9223372036854775807 < 7 + g.name.size + z.size + 1 := by omega
      clear hz hb1
      have H0D := Lib.hid (H0.out.step (Below.drew (Below.refl _ _)))
      have HVa : Hid (Tx w V0 (w.heap.size + 1) ((p.globals.take k).flatMap glT) ((wr.alloc (gO g)).alloc (.cells #[.int .i64 g.kind] 3)).drew) := Lib.hid ((H0.out.step (below1 _ _)).step (Below.drew (Below.refl _ _)))
      have HCa : Hid (((wr.alloc (gO g)).alloc (.cells #[.int .i64 g.kind] 3)).drew.heap[wr.heap.size + 1]? = some (.cells #[.int .i64 g.kind] 3 (0, 0))) := Lib.hid (heap2' wr (gO g) _)
      have hga : ((wr.alloc (gO g)).alloc (.cells #[.int .i64 g.kind] 3)).drew.heap[wr.heap.size]? = some (gO g) := heap2a' wr (gO g) _
      obtain ⟨ma0, ma1⟩ := gcells hga
      have HGA := Lib.hid hga
      clear hga
      go_upto_region 5 with fail
      go_region_law
        (first
          | (go_simp; go_at_call 21; (with_reducible refine (HDm.out _ _ _ ?_ ?_).mono ?_); (first | (with_reducible exact HVa.out)); (first | (with_reducible exact HCa.out)); rintro e wD ⟨rfl, hlD, hbD⟩; obtain ⟨mb0, mb1⟩ := gcells ((hbD.block _ (Array.getElem?_eq_some_iff.1 HGA.out).1).trans HGA.out))
          | (go_simp; go_at_call 20; refine (HWR.out _ _ ?_ (by rw [HG.out]; simp)).mono ?_; (first | (with_reducible assumption)); rintro e wW ⟨⟨vW, rfl⟩, hW1⟩))
      all_goals
        go_wp2
        go_roundw
        case rel => exact ⟨k + 1, by go_num, hlt, hW1⟩
        case measure => simp [intOf]; omega
    · obtain rfl : k = p.globals.length := by omega
      have HX2 : Hid (Tx w V0 (w.heap.size + 1) (p.globals.flatMap glT) wr) := Lib.hid (by have := HX.out; rwa [List.take_length] at this)
      have HGT : Hid ((p.globals.flatMap glT).length ≤ 100000000) := Lib.hid (by
        have h1 := flat_len (f := glT) (g := fun g : Gl => g.name.size + 30) (l := p.globals) (fun x hx => by
          obtain ⟨j, hj, rfl⟩ := List.getElem_of_mem hx
          obtain ⟨gb, go, _, hh⟩ := HP.out.gs.at (by omega)
          exact glT_len (hh j hj).b1) p.globals.length
        rw [List.take_length] at h1
        exact Nat.le_trans h1 HZ.out.g)
      obtain ⟨TG, hTG⟩ : ∃ TG, p.globals.flatMap glT = TG := ⟨_, rfl⟩
      rw [hTG] at HX2 HGT
      have HTG := Lib.hid hTG
      obtain ⟨c0, c1, c2, c3, _⟩ := hb1
      clear hTG HB0 HX
      rename World => wo
      go_wp2_with fail
      go_loopw [31] (fun s31 wr => ∃ k : Nat, s31 = .int .i64 (k : Int) ∧ k ≤ p.layouts.length ∧ Tx w V0 (w.heap.size + 1) (TG ++ (p.layouts.take k).flatMap lyT) wr) (fun s31 _ => p.layouts.length - (intOf s31).toNat)
      case atStart => exact ⟨0, rfl, Nat.zero_le _, by simpa using HX2.out⟩
      case round =>
        clear c0 c1 c2 c3
        obtain ⟨k, rfl, hk, hx⟩ := hrel
        have HX := Lib.hid hx
        have hb1 := HKP.out _ hx.bel
        clear hx
        by_cases hlt : k < p.layouts.length
        · obtain ⟨yb, yo, rfl, hh⟩ := HP.out.ls.at (by omega)
          have hly1 := (hh k hlt).below hb1.bel
          have hI : ∀ j (hj : j < p.layouts.length), ∀ n ∈ p.layouts[j], i64 n := fun j hj n hn => by
            obtain ⟨A', c', _, _, _, hrow⟩ := (hh j hj).row
            obtain ⟨m, hm, rfl⟩ := List.getElem_of_mem hn
            obtain ⟨_, _, _, hq⟩ := hrow.at (by omega)
            exact (hq m hm).b0
          have HTK := Lib.hid (flat_take lyT hlt)
          have HLEN : Hid (((p.layouts.take (k + 1)).flatMap lyT).length ≤ 100000000) := Lib.hid (Nat.le_trans (flat_len (fun x hx => by
            obtain ⟨j, hj, rfl⟩ := List.getElem_of_mem hx
            exact lyT_len (hI j hj)) (k + 1)) HZ.out.y)
          have hli := hI k hlt
          have hll := HLY.out _ (List.getElem_mem hlt)
          obtain ⟨l, hg⟩ : ∃ l, p.layouts[k] = l := ⟨_, rfl⟩
          rw [hg] at hly1 HTK hli hll
          obtain ⟨hxg, A', c', cc, hc', hm', hrow⟩ := hly1
          rw [Nat.mul_one] at cc
          clear hg hh hI
          obtain ⟨z, hz⟩ : ∃ z, txt (numsT l) = z := ⟨_, rfl⟩
          have hzs : z.size ≤ 24200000 := by
            rw [← hz, txt_size]
            have := numsT_len (l := l) hli
            omega
          have HG : Hid (lyT l = [108, 97, 121, 111, 117, 116] ++ z.data.toList ++ [10]) := Lib.hid (by rw [lyT_eq, ← hz]; rfl)
          have hdm := decimals_any A' l c' wr hrow HX.out.tb hll
          rw [hz] at hdm
          have HDm := Lib.hid hdm
          have HWR : Hid (∀ V s, Tx w V0 (w.heap.size + 1) (TG ++ (p.layouts.take k).flatMap lyT) V → s.data.toList = lyT l → Calls Tryd.prog 20 #[.pointer (some ⟨w.heap.size + 1, 0, none⟩), .string s] V fun e w' => (∃ v, e = .returned v) ∧ Tx w V0 (w.heap.size + 1) (TG ++ (p.layouts.take (k + 1)).flatMap lyT) w') := Lib.hid fun V s hV hs => by
            refine (write_any _ _ _ s V hV.bd ?_).mono fun e w' ⟨h1, h2, h3, h4⟩ => ⟨h1, ?_, hV.bel.trans h3, hV.tb.below h3 (by omega)⟩
            · have h1 := HLEN.out
              rw [HTK.out, List.length_append] at h1
              have h2 := HGT.out
              rw [hs, List.length_append]
              show _ ≤ 140737488355328
              omega
            · rw [HTK.out, ← List.append_assoc, ← hs]; exact h2
          have z1 : ¬ 9223372036854775807 < 6 + z.size := by omega
          have z2 : ¬ 9223372036854775807 < 6 + z.size + 1 := by omega
          clear hz hdm hrow hli hb1
          go_wp2_with fail
          refine HDm.out.mono ?_
          rintro e w1 ⟨rfl, hb1⟩
          have HX1 := Lib.hid (HX.out.step hb1)
          clear hb1
          go_wp2_with fail
          refine (HWR.out _ _ HX1.out (by rw [HG.out]; simp)).mono ?_
          rintro e w2 ⟨⟨v, rfl⟩, hx2⟩
          go_wp2
          go_roundw
          case rel => exact ⟨k + 1, by go_num, hlt, hx2⟩
          case measure => simp [intOf]; omega
        · obtain rfl : k = p.layouts.length := by omega
          have HX3 : Hid (Tx w V0 (w.heap.size + 1) (TG ++ p.layouts.flatMap lyT) wr) := Lib.hid (by have := HX.out; rwa [List.take_length] at this)
          have HYT : Hid ((p.layouts.flatMap lyT).length ≤ 100000000) := Lib.hid (by
            have h1 := flat_len (f := lyT) (g := fun l : List Int => 22 * l.length + 7) (l := p.layouts) (fun x hx => by
              obtain ⟨j, hj, rfl⟩ := List.getElem_of_mem hx
              obtain ⟨gb, go, _, hh⟩ := HP.out.ls.at (by omega)
              refine lyT_len fun n hn => ?_
              obtain ⟨A', c', _, _, _, hrow⟩ := (hh j hj).row
              obtain ⟨m, hm, rfl⟩ := List.getElem_of_mem hn
              obtain ⟨_, _, _, hq⟩ := hrow.at (by omega)
              exact (hq m hm).b0) p.layouts.length
            rw [List.take_length] at h1
            exact Nat.le_trans h1 HZ.out.y)
          obtain ⟨TY, hTY⟩ : ∃ TY, TG ++ p.layouts.flatMap lyT = TY := ⟨_, rfl⟩
          have HTYL : Hid (TY.length ≤ 200000000) := Lib.hid (by rw [← hTY, List.length_append]; have := HGT.out; have := HYT.out; omega)
          have HTY : Hid (textT p = TY ++ p.funcs.flatMap fnT) := Lib.hid (by rw [textT_eq, HTG.out, ← hTY, List.append_assoc])
          rw [hTY] at HX3
          obtain ⟨c0, c1, c2, c3, _⟩ := hb1
          clear hTY HX HX2
          rename World => wo2
          go_wp2_with fail
          go_loopw [44] (fun s44 wr => ∃ k : Nat, s44 = .int .i64 (k : Int) ∧ k ≤ p.funcs.length ∧ Tx w V0 (w.heap.size + 1) (TY ++ (p.funcs.take k).flatMap fnT) wr) (fun s44 _ => p.funcs.length - (intOf s44).toNat)
          case atStart => exact ⟨0, rfl, Nat.zero_le _, by simpa using HX3.out⟩
          case round =>
            clear c0 c1 c2 c3
            obtain ⟨k, rfl, hk, hx⟩ := hrel
            have HX := Lib.hid hx
            have hb1 := HKP.out _ hx.bel
            clear hx
            by_cases hlt : k < p.funcs.length
            · obtain ⟨fb, fo, rfl, hh⟩ := HP.out.fs.at (by omega)
              have hB1 := hb1.bel
              obtain ⟨hxg, c0, c1, c2, hrow3, s0, b1, b2⟩ := hh k hlt
              obtain ⟨A', c', c3, hc', hm', hrow⟩ := hrow3
              have HROW := Lib.hid hrow
              have e0 := (hB1.cell (p := ⟨fb, fo + k * 4, none⟩) hxg).trans c0
              have e1 := (hB1.cell (p := ⟨fb, fo + k * 4 + 1, none⟩) hxg).trans c1
              have e2 := (hB1.cell (p := ⟨fb, fo + k * 4 + 2, none⟩) hxg).trans c2
              have e3 := (hB1.cell (p := ⟨fb, fo + k * 4 + 3, none⟩) hxg).trans c3
              have HTK := Lib.hid (flat_take fnT hlt)
              have hlenf : ∀ j (hj : j < p.funcs.length), (fnT p.funcs[j]).length ≤ p.funcs[j].name.size + 50 + 100 * p.funcs[j].code.length := fun j hj => by
                have q := hh j hj
                unfold fnT
                rw [List.length_append]
                have h1 := fnH_len q.b1 q.b2
                have h2 := codeT_len (l := p.funcs[j].code) (fun x hx => by
                  obtain ⟨_, _, _, _, _, hr⟩ := q.row
                  obtain ⟨m, hm, rfl⟩ := List.getElem_of_mem hx
                  obtain ⟨_, _, _, hq⟩ := hr.at (by omega)
                  exact ⟨(hq m hm).b1, (hq m hm).b2, (hq m hm).b3⟩) (by have := HL.out _ (List.getElem_mem hj); omega) p.funcs[j].code.length
                rw [List.take_length] at h2
                omega
              have HLEN : Hid (((p.funcs.take (k + 1)).flatMap fnT).length ≤ 200000000) := Lib.hid (Nat.le_trans (flat_len (fun x hx => by
                obtain ⟨j, hj, rfl⟩ := List.getElem_of_mem hx
                exact hlenf j hj) (k + 1)) HZ.out.f)
              have HFK : Hid (p.funcs[k].name.size + 50 + 100 * p.funcs[k].code.length ≤ 200000000) := Lib.hid (Nat.le_trans (in_sum (f := fun f : Fc => f.name.size + 50 + 100 * f.code.length) (List.getElem_mem hlt)) HZ.out.f)
              have HTKL : Hid (((p.funcs.take k).flatMap fnT).length ≤ 200000000) := Lib.hid (by have := HLEN.out; rw [HTK.out, List.length_append] at this; omega)
              have HFH := Lib.hid (fnH_len (f := p.funcs[k]) b1 b2)
              have HOPK := Lib.hid (HOP.out _ (List.getElem_mem hlt))
              have hLK := HL.out _ (List.getElem_mem hlt)
              obtain ⟨f, hg⟩ : ∃ f, p.funcs[k] = f := ⟨_, rfl⟩
              rw [hg] at e0 e1 e2 e3 HTK HFK HFH HOPK hLK b1 b2 HROW hc'
              clear hg hh hlenf c0 c1 c2 c3 hrow s0 hm'
              have hns : f.name.size ≤ 200000000 := by have := HFK.out; omega
              obtain ⟨z, hz⟩ : ∃ z, txt (numsT [f.params, f.regs]) = z := ⟨_, rfl⟩
              have hpr : ∀ n ∈ [f.params, f.regs], i64 n := by
                intro n hn
                rcases (by simpa using hn : n = f.params ∨ n = f.regs) with e | e
                · rw [e]; exact b1
                · rw [e]; exact b2
              have hzs : z.size ≤ 44 := by rw [← hz, txt_size]; exact numsT_len hpr
              have HG : Hid (lineB (fnL f) = [102, 117, 110, 99, 32] ++ f.name.data.toList ++ z.data.toList ++ [10]) := Lib.hid (by rw [fnH_eq, ← hz]; rfl)
              obtain ⟨t0, ht0⟩ : ∃ t0, TY ++ (p.funcs.take k).flatMap fnT = t0 := ⟨_, rfl⟩
              have HT0 : Hid (t0.length ≤ 400000000) := Lib.hid (by rw [← ht0, List.length_append]; have := HTYL.out; have := HTKL.out; omega)
              have HT1 : Hid (TY ++ (p.funcs.take (k + 1)).flatMap fnT = (t0 ++ lineB (fnL f)) ++ codeT 0 f.code) := Lib.hid (by rw [HTK.out, ← ht0]; unfold fnT; simp)
              have HX0 : Hid (Tx w V0 (w.heap.size + 1) t0 wr) := Lib.hid (by rw [← ht0]; exact HX.out)
              have HDm : Hid (∀ V xb c, Tx w V0 (w.heap.size + 1) t0 V → V.heap[xb]? = some (.cells #[.int .i64 f.params, .int .i64 f.regs] 3 (0, 0)) → Calls Tryd.prog 21 #[.slice (some ⟨xb, 0, none⟩) 2 c] V fun e w' => e = .returned (.string z) ∧ Tx w V0 (w.heap.size + 1) t0 w' ∧ Below V.heap.size V w') := Lib.hid fun V xb c hV hb => by
                have hrw : Row 1 (IntAt V) (some ⟨xb, 0, none⟩) [f.params, f.regs] := .inr ⟨xb, 0, rfl, fun i hi => by
                  have hi2 : i < 2 := by simpa using hi
                  rcases (by omega : i = 0 ∨ i = 1) with rfl | rfl
                  · exact ⟨(Array.getElem?_eq_some_iff.1 hb).1, by simp [World.cell?, hb], b1⟩
                  · exact ⟨(Array.getElem?_eq_some_iff.1 hb).1, by simp [World.cell?, hb], b2⟩⟩
                have := decimals_any (some ⟨xb, 0, none⟩) [f.params, f.regs] c V hrw hV.tb (by simp)
                rw [hz] at this
                exact this.mono fun e w' h => ⟨h.1, hV.step h.2, h.2⟩
              obtain ⟨fv, hfv⟩ : ∃ v, Value.slice A' f.code.length c' = v := ⟨_, rfl⟩
              have HWR : Hid (∀ V s, Tx w V0 (w.heap.size + 1) t0 V → V.heap[wr.heap.size]? = some (fO f (.slice A' f.code.length c')) → s.data.toList = lineB (fnL f) → Calls Tryd.prog 20 #[.pointer (some ⟨w.heap.size + 1, 0, none⟩), .string s] V fun e w' => (∃ v, e = .returned v) ∧ Tx w V0 (w.heap.size + 1) (t0 ++ lineB (fnL f)) w' ∧ w'.heap[wr.heap.size]? = some (fO f (.slice A' f.code.length c'))) := Lib.hid fun V s hV hbx hs => by
                refine (write_any _ _ _ s V hV.bd ?_).mono fun e w' ⟨h1, h2, h3, h4⟩ => ⟨h1, ⟨?_, hV.bel.trans h3, hV.tb.below h3 (by omega)⟩, h4 _ _ _ (by decide) (by decide) hbx⟩
                · rw [hs]
                  have h5 := HT0.out
                  have h6 := HFH.out
                  show _ ≤ 140737488355328
                  omega
                · rw [← hs]; exact h2
              have H0 := Lib.hid (HX0.out.step (below1 wr (fO f (.slice A' f.code.length c'))))
              obtain ⟨m0, m1, m2, m3⟩ := fcells (heap_alloc_new wr (fO f (.slice A' f.code.length c')))
              have HVa : Hid (Tx w V0 (w.heap.size + 1) t0 ((wr.alloc (fO f (.slice A' f.code.length c'))).alloc (.cells #[.int .i64 f.params, .int .i64 f.regs] 3)).drew) := Lib.hid ((H0.out.step (below1 _ _)).step (Below.drew (Below.refl _ _)))
              have HCa : Hid (((wr.alloc (fO f (.slice A' f.code.length c'))).alloc (.cells #[.int .i64 f.params, .int .i64 f.regs] 3)).drew.heap[wr.heap.size + 1]? = some (.cells #[.int .i64 f.params, .int .i64 f.regs] 3 (0, 0))) := Lib.hid (heap2' wr _ _)
              have hga : ((wr.alloc (fO f (.slice A' f.code.length c'))).alloc (.cells #[.int .i64 f.params, .int .i64 f.regs] 3)).drew.heap[wr.heap.size]? = some (fO f (.slice A' f.code.length c')) := heap2a' wr _ _
              obtain ⟨ma0, ma1, ma2, ma3⟩ := fcells hga
              have HGA := Lib.hid hga
              have z1 : ¬ 9223372036854775807 < 5 + f.name.size := by omega
              have z2 : ¬ 9223372036854775807 < 5 + f.name.size + z.size := by omega
              have z3 : ¬ 9223372036854775807 < 5 + f.name.size + z.size + 1 := by omega
              clear hz hb1 hga hpr ht0 hfv hB1
              go_upto_region 15 with fail
              go_region_law
                (first
                  | (go_simp; go_at_call 21; (with_reducible refine (HDm.out _ _ _ ?_ ?_).mono ?_); (first | (with_reducible exact HVa.out)); (first | (with_reducible exact HCa.out)); rintro e wD ⟨rfl, hlD, hbD⟩; have hgD := (hbD.block _ (Array.getElem?_eq_some_iff.1 HGA.out).1).trans HGA.out; obtain ⟨mb0, mb1, mb2, mb3⟩ := fcells hgD; have HGD := Lib.hid hgD; clear hgD)
                  | (go_simp; go_at_call 20; refine (HWR.out _ _ ?_ HGD.out (by rw [HG.out]; simp)).mono ?_; (first | (with_reducible assumption)); rintro e wW ⟨⟨vW, rfl⟩, hW1, hgW⟩; obtain ⟨mw0, mw1, mw2, mw3⟩ := fcells hgW; have HW1 := Lib.hid hW1; clear hW1 hgW))
              all_goals
                have HBW := Lib.hid (HKP.out _ HW1.out.bel).bel
                go_wp2_with fail
                refine (writeCode_any w (w.heap.size + 1) (w.heap.size + 1) (t0 ++ lineB (fnL f)) A' f.code c' wW HW1.out.bd HROW.out HBW.out (by omega) (by omega) HW1.out.tb HOPK.out hLK (by rw [List.length_append]; have h5 := HT0.out; have h6 := HFH.out; have h7 := HFK.out; show _ ≤ 140737488355328; omega)).mono ?_
                rintro e wE ⟨rfl, hE1, hE2⟩
                have HE : Hid (Tx w V0 (w.heap.size + 1) (TY ++ (p.funcs.take (k + 1)).flatMap fnT) wE) := Lib.hid ⟨by rw [HT1.out]; exact hE1, HW1.out.bel.trans hE2, HW1.out.tb.below hE2 (by omega)⟩
                clear hE1 hE2
                go_wp2
                go_roundw
                case rel => exact ⟨k + 1, by go_num, hlt, HE.out⟩
                case measure => simp [intOf]; omega
            · obtain rfl : k = p.funcs.length := by omega
              have HX4 : Hid (Tx w V0 (w.heap.size + 1) (textT p) wr) := Lib.hid (by rw [HTY.out]; have := HX.out; rwa [List.take_length] at this)
              have HB4 := Lib.hid hb1.bel
              clear hb1
              go_wp2_with fail
              refine (string_any _ _ _ wr HX4.out.bd).mono ?_
              rintro e w2 ⟨rfl, hb2⟩
              go_wp2
              go_ret
              exact ⟨rfl, HB4.out.trans (hb2.mono (by omega))⟩
end Go.Proofs.YtekfhgldebhigaaDoor
