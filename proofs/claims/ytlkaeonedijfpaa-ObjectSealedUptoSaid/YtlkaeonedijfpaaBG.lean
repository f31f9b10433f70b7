/-
  The program's Encode.
-/
import Derived.Test.YtlkaeonedijfpaaBE
import Derived.Test.YtlkaeonedijfpaaCJ
import Derived.Test.YtlkaeonedijfpaaRI
import Derived.Lib.SlBytesConst
set_option linter.all false
namespace Go.Proofs.Ytlkaeonedijfpaa
open Go.RowKit C
theorem OwnB.row {base : Nat} {w : World} {v : Value} {l : Bs} (h : OwnB base w v l) : ∃ A cap, v = .slice A l.length cap ∧ l.length ≤ cap ∧ cap ≤ maxLen ∧ Row 1 (ByAt w) A l := by
  have hlt := h.lt
  rcases h.2 with ⟨e1, e2⟩ | ⟨g, cap, cur, rfl, hb, hg, hc, hm, hcs, ht⟩
  · exact ⟨none, 0, by rw [e1, e2], by omega, Nat.zero_le _, .inl (List.eq_nil_of_length_eq_zero e2)⟩
  · refine ⟨some ⟨g, 0, none⟩, cap, rfl, hc, hm, .inr ⟨g, 0, rfl, fun i hi => ⟨(hlt g rfl).2, ?_⟩⟩⟩
    have := World.ownsRow.cellAt (w := w) (base := base) (e := 5) (size := 1) (g := g) (n := l.length) (cap := cap) (xs := l.map u8v) h i (by omega)
    rw [Nat.zero_add, Nat.mul_one, this]
    simp [hi]
theorem OwnB.keep {base : Nat} {w w' : World} {v : Value} {l : Bs} (h : OwnB base w v l) (hb : Below w.heap.size w w') : OwnB base w' v l := own_keepN h hb
/-- Bytes of the call's own, and the number of an error. -/
def RetB (w : World) (l : Bs) (n : Int) (e : Ending) (w' : World) : Prop := ∃ v, e = .returned (.tuple #[v, .int .i64 n]) ∧ OwnB w.heap.size w' v l ∧ Below w.heap.size w w'
abbrev markO : Obj := .cells #[.int .u8 105, .int .u8 108, .int .u8 118, .int .u8 49] 5 (4, 5)
theorem mark_cst (base : Nat) (w : World) (hb : base ≤ w.heap.size) : OwnX base (w.alloc markO) (.slice (some ⟨w.heap.size, 0, none⟩) 4 4) C.mark :=
  .inr ⟨w.heap.size, (4, 5), rfl, hb, heap_alloc_new w _⟩
theorem conv_mark (w : World) : (convert 22 22 (.slice (some ⟨w.heap.size, 0, none⟩) 4 4)).run Try.prog (w.alloc (.cells #[.int .u8 105, .int .u8 108, .int .u8 118, .int .u8 49] 5)) = .ok (.slice (some ⟨w.heap.size, 0, none⟩) 4 4) (w.alloc markO) :=
  Lib.run_convert_bytes_const (P := Try.prog) w 22 5 _ 4 4 Try.underlying22 Try.underlying5
set_option maxRecDepth 100000 in
set_option maxHeartbeats 2000000 in
theorem oenc_no (p : Pg) (A B D : Option Addr) (ca cb cd : Nat) (w : World) (hp : PgAt w p A B D ca cb cd) (hv : validB p = false) :
    Calls Try.prog 14 #[pv p A B D ca cb cd] w (RetB w [] 1) := by
  have HV := Lib.hid (valid_any p A B D ca cb cd (w.alloc (.cells (pb p A B D ca cb cd) 31)) (hp.below (below1 _ _)))
  rw [hv] at HV
  have HN := Lib.hid (below1 w (.cells (pb p A B D ca cb cd) 31))
  clear hp hv
  go_enter Try.func14, Try.ntmps14
  go_wp2_with fail
  refine HV.out.mono ?_
  rintro e w1 ⟨rfl, hb1⟩
  have HB := Lib.hid (HN.out.trans (hb1.mono HN.out.size))
  clear hb1
  go_wp2
  go_ret2
  exact ⟨_, rfl, OwnB.nil _ _, HB.out⟩
set_option maxRecDepth 100000 in
set_option maxHeartbeats 2000000 in
theorem oenc_yes (p : Pg) (A B D : Option Addr) (ca cb cd : Nat) (w : World) (hp : PgAt w p A B D ca cb cd) (hb : Bk p) (hv : validB p = true) :
    Calls Try.prog 14 #[pv p A B D ca cb cd] w (RetB w (formE p) 0) := by
  have HV := Lib.hid (valid_any p A B D ca cb cd (w.alloc (.cells (pb p A B D ca cb cd) 31)) (hp.below (below1 _ _)))
  rw [hv] at HV
  have HN := Lib.hid (below1 w (.cells (pb p A B D ca cb cd) 31))
  have HNW := Lib.hid (heap_alloc_new w (.cells (pb p A B D ca cb cd) 31))
  have hlen := pgE_len (pg_ip hp hb) hb
  have HP := Lib.hid hp
  have HB := Lib.hid hb
  clear hp hv hb
  go_enter Try.func14, Try.ntmps14
  go_wp2_with fail
  refine HV.out.mono ?_
  rintro e w1 ⟨rfl, hb1⟩
  have HB1 := Lib.hid (HN.out.trans (hb1.mono HN.out.size))
  have HBX : Hid (w1.heap[w.heap.size]? = _) := Lib.hid ((hb1.block w.heap.size (by simp)).trans HNW.out)
  clear hb1
  have H2 := Lib.hid (oprog_any w p A B D ca cb cd _ C.mark (w1.alloc markO) HP.out (HB1.out.alloc HB1.out.size _) (mark_cst _ w1 HB1.out.size) HB.out (by decide))
  obtain ⟨L, hL⟩ : ∃ L, C.mark ++ pgE p = L := ⟨_, rfl⟩
  have hl2 : L.length ≤ 200000000 := by rw [← hL, List.length_append]; simp only [C.mark, List.length_cons, List.length_nil]; omega
  have HF : Hid (formE p = L ++ sumE (sumF L)) := Lib.hid (by unfold formE headF; rw [hL])
  rw [hL] at H2
  clear hL hlen
  obtain ⟨⟨c0, c1, c2, c3⟩, _⟩ := cells4 HBX.out
  have hcv := conv_mark w1
  have hb3 : (w1.alloc markO).heap[w.heap.size]? = some (.cells (pb p A B D ca cb cd) 31 (0, 0)) := (heap_alloc_old w1 markO (Array.getElem?_eq_some_iff.1 HBX.out).1).trans HBX.out
  obtain ⟨⟨d0, d1, d2, d3⟩, _⟩ := cells4 hb3
  clear hb3
  go_wp2_with fail
  refine H2.out.mono ?_
  rintro e w2 ⟨v2, rfl, S2, hg2⟩
  obtain ⟨A2, cap2, rfl, hc2, hm2, hr2⟩ := S2.own.row
  have HS := Lib.hid S2
  have H3 := Lib.hid (osum_any A2 L cap2 w2 (by omega) hr2)
  clear hr2 hg2 hc2 hm2 S2 c0 c1 c2 c3 d0 d1 d2 d3
  go_wp2_with fail
  refine H3.out.mono ?_
  rintro e w3 ⟨rfl, rfl⟩
  have H4 := Lib.hid (oasum_any w.heap.size _ _ (sumF L) w2 HS.out.own HS.out.bel.size (by omega))
  go_wp2_with fail
  refine H4.out.mono ?_
  rintro e w4 ⟨v4, rfl, ho4, hg4⟩
  have HS4 := Lib.hid (HS.out.gr hg4 ho4)
  clear ho4 hg4
  go_wp2
  go_ret2
  exact ⟨_, rfl, by rw [HF.out]; exact HS4.out.own, HS4.out.bel⟩
end Go.Proofs.Ytlkaeonedijfpaa
