/-
  The program's lines of instructions.
-/
import Derived.Test.YtekfhgldebhigaaDoorTE
set_option linter.all false
namespace Go.Proofs.YtekfhgldebhigaaDoor
open Go.RowKit C
set_option maxRecDepth 100000
def WB : Bs := [99, 111, 110, 115, 116, 32, 110, 105, 108, 32, 109, 111, 118, 101, 32, 97, 100, 100, 32, 115, 117, 98, 32, 109, 117, 108, 32, 100, 105, 118, 32, 114, 101, 109, 32, 110, 101, 103, 32, 110, 111, 116, 32, 101, 113, 32, 110, 101, 32, 108, 116, 32, 108, 101, 32, 108, 101, 110, 32, 106, 117, 109, 112, 32, 106, 117, 109, 112, 122, 32, 103, 108, 111, 98, 97, 108, 32, 102, 105, 101, 108, 100, 32, 105, 110, 100, 101, 120, 32, 110, 101, 119, 32, 115, 108, 105, 99, 101, 32, 99, 104, 97, 110, 32, 99, 108, 111, 115, 117, 114, 101, 32, 99, 97, 112, 32, 99, 97, 108, 108, 32, 99, 97, 108, 108, 99, 32, 100, 101, 102, 101, 114, 32, 100, 101, 102, 101, 114, 99, 32, 114, 101, 116, 117, 114, 110, 32, 103, 111, 32, 103, 111, 99, 32, 108, 111, 97, 100, 32, 115, 116, 111, 114, 101, 32, 97, 108, 111, 97, 100, 32, 97, 115, 116, 111, 114, 101, 32, 97, 97, 100, 100, 32, 97, 99, 97, 115, 32, 108, 111, 99, 107, 32, 117, 110, 108, 111, 99, 107, 32, 114, 108, 111, 99, 107, 32, 114, 117, 110, 108, 111, 99, 107, 32, 103, 114, 111, 117, 112, 32, 119, 97, 105, 116, 32, 111, 110, 99, 101, 32, 111, 110, 99, 101, 101, 110, 100, 32, 115, 101, 110, 100, 32, 114, 101, 99, 118, 32, 99, 108, 111, 115, 101, 32, 115, 101, 108, 101, 99, 116, 32, 99, 97, 115, 101, 32, 112, 114, 105, 110, 116]
def WF : Array Value := ((words.drop 1).map fun l => Value.string ⟨l.toArray⟩).toArray
theorem fields_WB : Lib.fields WB = words.drop 1 := by decide +kernel
theorem WB_ascii : ∀ b ∈ WB, b.toNat < 128 := by decide +kernel
theorem fields_any (s : ByteArray) (hs : s.data.toList = WB) (w : World) (hT : Tb w) :
    Calls Tryd.prog 52 #[.string s] w fun e w' => e = .returned (.slice (some ⟨w.heap.size, 0, none⟩) 52 52) ∧ w' = w.alloc (.cells WF 9) := by
  have hl : s.size = WB.length := by rw [← hs]; rfl
  have hl2 : WB.length ≤ 1000 := by decide
  refine (Tryd.strings_Fields s w (by omega) (fun j b hb => WB_ascii b (by rw [← hs]; exact List.mem_of_getElem? hb)) hT.spc).mono ?_
  rintro e w' ⟨rfl, rfl⟩
  rw [hs, fields_WB]
  exact ⟨rfl, rfl⟩
theorem WF_at {i : Nat} (h : i < 52) : WF[i]? = some (.string (txt (words.getD (i + 1) []))) := by
  have h2 : words.length = 53 := rfl
  unfold WF
  rw [List.getElem?_toArray, List.getElem?_map, List.getElem?_drop, List.getElem?_eq_getElem (by omega), List.getD_eq_getElem?_getD, List.getElem?_eq_getElem (by omega)]
  simp only [Option.map_some, Option.getD_some, Nat.add_comm 1 i, txt]
abbrev xO (x : In) : Obj := .cells #[.int .i64 x.op, .int .i64 x.a, .int .i64 x.b, .int .i64 x.c, .int .i64 x.at'] 34 (0, 0)
/-- What stands while a line is made: the builder, the words, the instruction's box, the tables. -/
structure Ln (w : World) (B b ab xb : Nat) (t : Bs) (x : In) (V : World) : Prop where
  bd : Bd V B b t
  bel : Below B w V
  row : V.heap[ab]? = some (.cells WF 9 (0, 0))
  box : V.heap[xb]? = some (xO x)
  tb : Tb V
theorem Ln.step {w : World} {B b ab xb : Nat} {t : Bs} {x : In} {V V' : World} (h : Ln w B b ab xb t x V) (hb : Below V.heap.size V V') : Ln w B b ab xb t x V' :=
  ⟨h.bd.keep hb, h.bel.trans (hb.mono h.bd.hB), (hb.block ab (Array.getElem?_eq_some_iff.1 h.row).1).trans h.row, (hb.block xb (Array.getElem?_eq_some_iff.1 h.box).1).trans h.box, h.tb.step hb⟩
theorem Ln.load {w : World} {B b ab xb : Nat} {t : Bs} {x : In} {V : World} (h : Ln w B b ab xb t x V) : V.cell? ⟨xb, 0, none⟩ = some (.int .i64 x.op) ∧ V.cell? ⟨xb, 1, none⟩ = some (.int .i64 x.a) ∧ V.cell? ⟨xb, 2, none⟩ = some (.int .i64 x.b) ∧ V.cell? ⟨xb, 3, none⟩ = some (.int .i64 x.c) ∧ V.cell? ⟨xb, 4, none⟩ = some (.int .i64 x.at') := by
  simp [World.cell?, h.box]
theorem ints_row {w : World} {base n c : Nat} {A : Option Addr} {l : List Int} (h : w.ownsRow base 3 1 (.slice A n c) l.length (l.map (Value.int .i64))) (hi : ∀ x ∈ l, i64 x) : n = l.length ∧ Row 1 (IntAt w) A l := by
  rcases h.2 with ⟨e, h0⟩ | ⟨g, c', cur, e, _, hg, _⟩
  · cases e
    exact ⟨h0.symm, .inl (List.eq_nil_of_length_eq_zero h0)⟩
  · cases e
    refine ⟨rfl, .inr ⟨g, 0, rfl, fun i hi2 => ?_⟩⟩
    have := h.cellAt i (by omega)
    refine ⟨(Array.getElem?_eq_some_iff.1 hg).1, ?_, hi _ (List.getElem_mem hi2)⟩
    rw [Nat.zero_add]
    simpa [hi2] using this
set_option maxHeartbeats 8000000 in
theorem writeCode_any (W : World) (B b : Nat) (t : Bs) (A : Option Addr) (l : List In) (cap : Nat) (w : World) (hd : Bd w B b t) (hr : Row 5 (InAt W) A l) (hW : Below W.heap.size W w) (hWB : W.heap.size ≤ B) (hB6 : 5 ≤ B) (hT : Tb w) (hop : ∀ x ∈ l, 1 ≤ x.op ∧ x.op ≤ 52) (hl : l.length ≤ 1100000) (ht : t.length + 100 * l.length ≤ lim) :
    Calls Tryd.prog 22 #[.pointer (some ⟨b, 0, none⟩), .slice A l.length cap] w fun e w' => e = .returned (.tuple #[]) ∧ Bd w' B b (t ++ codeT 0 l) ∧ Below B w w' := by
  have HD := Lib.hid hd
  have HR := Lib.hid hr
  have HW := Lib.hid hW
  have HTB := Lib.hid hT
  have HOP := Lib.hid hop
  have HHT := Lib.hid ht
  have hls : (l.length : Int) ≤ 1100000 := by omega
  clear hd hr hW hT hop ht
  go_enter Tryd.func22, Tryd.ntmps22
  go_wp2_with fail
  refine (fields_any _ (by rfl) _ HTB.out).mono ?_
  rintro e w1 ⟨rfl, rfl⟩
  have HB1 := Lib.hid (below1 w (.cells WF 9))
  have HROW := Lib.hid (heap_alloc_new w (.cells WF 9))
  have HD1 := Lib.hid (HD.out.keep HB1.out)
  have HBEL1 : Hid (Below B w (w.alloc (.cells WF 9))) := Lib.hid (HB1.out.mono HD.out.hB)
  have HTB1 := Lib.hid (HTB.out.step HB1.out)
  go_wp2_with fail
  go_loopw [11] (fun s11 wr => ∃ k : Nat, s11 = .int .i64 (k : Int) ∧ k ≤ l.length ∧ Bd wr B b (t ++ codeT 0 (l.take k)) ∧ Below B w wr ∧ wr.heap[w.heap.size]? = some (.cells WF 9 (0, 0))) (fun s11 _ => l.length - (intOf s11).toNat)
  case atStart => exact ⟨0, rfl, Nat.zero_le _, by simpa [codeT, codeLs] using HD1.out, HBEL1.out, HROW.out⟩
  case round =>
    obtain ⟨k, rfl, hk, hb, hbel, hrow⟩ := hrel
    have HB := Lib.hid hb
    have HBL := Lib.hid hbel
    have HRW := Lib.hid hrow
    clear hb hbel hrow
    by_cases hlt : k < l.length
    · obtain ⟨g, o, rfl, hh⟩ := HR.out.at (by omega)
      obtain ⟨hxg, c0, c1, c2, c3, c4, b0, b1, b2, b3, b4⟩ := (hh k hlt).below (HW.out.trans (HBL.out.mono hWB))
      obtain ⟨ho1, ho2⟩ := HOP.out _ (List.getElem_mem hlt)
      have HI3 : Hid (∀ x ∈ l, I3 x) := Lib.hid fun x hx => by
        obtain ⟨j, hj, rfl⟩ := List.getElem_of_mem hx
        exact ⟨(hh j hj).b1, (hh j hj).b2, (hh j hj).b3⟩
      have HCT := Lib.hid (codeT_take hlt)
      have HI3k := Lib.hid (HI3.out _ (List.getElem_mem hlt))
      obtain ⟨x, hx⟩ : ∃ x, l[k] = x := ⟨_, rfl⟩
      rw [hx] at c0 c1 c2 c3 c4 ho1 ho2 HCT HI3k
      clear hx hh b0 b1 b2 b3 b4
      obtain ⟨i, hi⟩ : ∃ i : Nat, x.op = (i : Int) + 1 := ⟨(x.op - 1).toNat, by omega⟩
      have hi52 : i < 52 := by omega
      have hop1 : x.op - 1 = (i : Int) := by omega
      have hi52' : (i : Int) < 52 := by omega
      have hi0 : (0 : Int) ≤ (i : Int) := by omega
      have hge : (x.op ≥ 1) := ho1
      have cw := WF_at hi52
      have hwt : wordT x.op = words.getD (i + 1) [] := by unfold wordT; rw [if_neg (by omega), show x.op.toNat = i + 1 by omega]
      rw [← hwt] at cw
      obtain ⟨wd, hwd⟩ : ∃ y, txt (wordT x.op) = y := ⟨_, rfl⟩
      rw [hwd] at cw
      have HWD : Hid (wd.data.toList = wordT x.op) := Lib.hid (by rw [← hwd]; rfl)
      have hws : wd.size ≤ 7 := by rw [← hwd, txt_size]; exact word_len _
      have HCW := Lib.hid cw
      clear hi hwt hwd cw
      have H0 := Lib.hid (show Ln w B b w.heap.size wr.heap.size (t ++ codeT 0 (l.take k)) x (wr.alloc (xO x)) from ⟨HB.out.keep (below1 wr _), HBL.out.trans ((below1 wr _).mono HB.out.hB), (heap_alloc_old _ _ (Array.getElem?_eq_some_iff.1 HRW.out).1).trans HRW.out, heap_alloc_new wr _, (HTB.out.below HBL.out hB6).step (below1 wr _)⟩)
      have cwd : ∀ V : World, V.heap[w.heap.size]? = some (.cells WF 9 (0, 0)) → V.cell? ⟨w.heap.size, i, none⟩ = some (.string wd) := fun V hV => by
        rw [World.cell?, hV]; simpa using HCW.out
      have CWD := Lib.hid (cwd _ H0.out.row)
      clear cwd
      obtain ⟨m0, m1, m2, m3, m4⟩ := H0.out.load
      have cwdx := CWD.out
      have H0D := Lib.hid (H0.out.step (Below.drew (Below.refl _ _)))
      have hki : i64 (k : Int) := by unfold i64; omega
      obtain ⟨y, hy⟩ : ∃ y, txt (Lib.itoa (k : Int)) = y := ⟨_, rfl⟩
      obtain ⟨z, hz⟩ : ∃ z, txt (numsT (usedT x)) = z := ⟨_, rfl⟩
      obtain ⟨n, hn⟩ : ∃ n, (usedT x).length = n := ⟨_, rfl⟩
      have HUI : Hid (∀ v ∈ usedT x, i64 v) := Lib.hid (used_i64 HI3k.out)
      have hys : y.size ≤ 21 := by rw [← hy, txt_size]; exact itoa_len hki
      have hzs : z.size ≤ 66 := by
        rw [← hz, txt_size]
        have h1 := numsT_len HUI.out
        have h2 := used_len x
        omega
      have HIt : Hid (∀ V, Ln w B b w.heap.size wr.heap.size (t ++ codeT 0 (l.take k)) x V → Calls Tryd.prog 51 #[.int .i64 (k : Int)] V fun e w' => e = .returned (.string y) ∧ Ln w B b w.heap.size wr.heap.size (t ++ codeT 0 (l.take k)) x w' ∧ Below V.heap.size V w') := Lib.hid fun V hV => by
        have := itoa_any (k : Int) hki V hV.tb
        unfold RT at this
        rw [hy] at this
        exact this.mono fun e w' h => ⟨h.1, hV.step h.2, h.2⟩
      have HU : Hid (∀ V, Ln w B b w.heap.size wr.heap.size (t ++ codeT 0 (l.take k)) x V → Calls Tryd.prog 53 #[xv x] V fun e w' => ∃ A c, e = .returned (.slice A n c) ∧ Row 1 (IntAt w') A (usedT x) ∧ Ln w B b w.heap.size wr.heap.size (t ++ codeT 0 (l.take k)) x w' ∧ Below V.heap.size V w') := Lib.hid fun V hV => (used_any x V).mono fun e w' ⟨v, h1, h2, h3⟩ => by
        obtain ⟨A, m, c, rfl⟩ := slice_form h2
        obtain ⟨e1, e2⟩ := ints_row h2 HUI.out
        exact ⟨A, c, by rw [h1, e1, hn], e2, hV.step h3, h3⟩
      have HDm : Hid (∀ V A c, Ln w B b w.heap.size wr.heap.size (t ++ codeT 0 (l.take k)) x V → Row 1 (IntAt V) A (usedT x) → Calls Tryd.prog 21 #[.slice A n c] V fun e w' => e = .returned (.string z) ∧ Ln w B b w.heap.size wr.heap.size (t ++ codeT 0 (l.take k)) x w' ∧ Below V.heap.size V w') := Lib.hid fun V A c hV hA => by
        have := decimals_any A (usedT x) c V hA hV.tb (by have := used_len x; omega)
        rw [hz, hn] at this
        exact this.mono fun e w' h => ⟨h.1, hV.step h.2, h.2⟩
      have HL : Hid (lineT k x = [9] ++ y.data.toList ++ [32] ++ wd.data.toList ++ z.data.toList ++ [10]) := Lib.hid (by rw [lineT_eq, HWD.out, ← hy, ← hz]; rfl)
      have HWR : Hid (∀ V s, Ln w B b w.heap.size wr.heap.size (t ++ codeT 0 (l.take k)) x V → s.data.toList = lineT k x → Calls Tryd.prog 20 #[.pointer (some ⟨b, 0, none⟩), .string s] V fun e w' => (∃ v, e = .returned v) ∧ Bd w' B b (t ++ codeT 0 (l.take (k + 1))) ∧ Below B w w' ∧ w'.heap[w.heap.size]? = some (.cells WF 9 (0, 0))) := Lib.hid fun V s hV hs => by
        refine (write_any B b _ s V hV.bd ?_).mono fun e w' ⟨h1, h2, h3, h4⟩ => ⟨h1, ?_, hV.bel.trans h3, h4 _ _ _ (by decide) (by decide) hV.row⟩
        · have h1 := lineT_len (k := k) (by omega) HI3k.out
          have h2 := codeT_len HI3.out (by omega) k
          have h3 := HHT.out
          rw [hs, List.length_append]
          have h4 : (codeT 0 (l.take (k + 1))).length ≤ 100 * l.length := codeT_len HI3.out (by omega) (k + 1)
          rw [HCT.out, List.length_append] at h4
          omega
        · rw [HCT.out, ← List.append_assoc, ← hs]; exact h2
      have z1 : ¬ 9223372036854775807 < 1 + y.size := by omega
      have z2 : ¬ 9223372036854775807 < 1 + y.size + 1 := by omega
      have z3 : ¬ 9223372036854775807 < 1 + y.size + 1 + wd.size := by omega
      have z4 : ¬ 9223372036854775807 < 1 + y.size + 1 + wd.size + z.size := by omega
      have z5 : ¬ 9223372036854775807 < 1 + y.size + 1 + wd.size + z.size + 1 := by omega
      clear hy hz hn HUI hki CWD H0
      go_upto_region 7 with fail
      go_region_law
        (first
          | (go_simp; go_at_call 51; (with_reducible refine (HIt.out _ ?_).mono ?_); (first | (with_reducible assumption) | exact H0D.out); rintro e wI ⟨rfl, hlI, hbI⟩; obtain ⟨i0, i1, i2, i3, i4⟩ := hlI.load)
          | (go_simp; go_at_call 53; (with_reducible refine (HU.out _ ?_).mono ?_); (first | (with_reducible assumption) | exact H0D.out); rintro e wU ⟨AU, cU, rfl, hrU, hlU, hbU⟩)
          | (go_simp; go_at_call 21; (with_reducible refine (HDm.out _ _ _ ?_ ?_).mono ?_); (first | (with_reducible assumption) | exact H0D.out); (first | (with_reducible exact hrU) | (with_reducible exact hrU.imp fun x g o q => q.below hbI)); rintro e wD ⟨rfl, hlD, hbD⟩)
          | (go_simp; go_at_call 20; refine (HWR.out _ _ ?_ (by rw [HL.out]; simp)).mono ?_; (first | (with_reducible assumption) | exact H0D.out); rintro e wW ⟨⟨vW, rfl⟩, hW1, hW2, hW3⟩))
      all_goals
        go_wp2
        go_roundw
        case rel => exact ⟨k + 1, by go_num, hlt, hW1, hW2, hW3⟩
        case measure => simp [intOf]; omega
    · obtain rfl : k = l.length := by omega
      have HB3 : Hid (Bd wr B b (t ++ codeT 0 l)) := Lib.hid (by have := HB.out; rwa [List.take_length] at this)
      go_wp2_with fail
      go_end0
      exact ⟨rfl, HB3.out, HBL.out⟩
end Go.Proofs.YtekfhgldebhigaaDoor
