/-
  The walk of the law ScanWithoutComments.
-/
import Derived.Test.YtaalgkcbknlccaaDoorL6
import Derived.StillTailTactics
namespace Go.Proofs.YtaalgkcbknlccaaDoor
open Go.RowKit M

/-- A row of tokens that is not block b. -/
def RdX (w : World) (A : Option Addr) (l : List Tok) (b : Nat) : Prop := l = [] ∨ ∃ g, A = some ⟨g, 0, none⟩ ∧ Lies w g l ∧ g < w.heap.size ∧ g ≠ b
theorem RdX.below {w w' : World} {A : Option Addr} {l : List Tok} {b : Nat} (h : RdX w A l b) (hb : Below w.heap.size w w') : RdX w' A l b := by
  rcases h with h | ⟨g, e, h, hlt, hne⟩
  · exact .inl h
  · exact .inr ⟨g, e, h.below hb hlt, by have := hb.size; omega, hne⟩
theorem RdX.drewN {w : World} {A : Option Addr} {l : List Tok} {b : Nat} (h : RdX w A l b) (n : Nat) : RdX (w.drewN n) A l b := h
theorem RdX.set {w : World} {A : Option Addr} {l : List Tok} {b : Nat} (h : RdX w A l b) (q : Nat) (v : Value) : RdX (w.setCell ⟨b, q, none⟩ v) A l b := by
  rcases h with h | ⟨g, e, h, hlt, hne⟩
  · exact .inl h
  · refine .inr ⟨g, e, fun i hi => ?_, by simpa using hlt, hne⟩
    have k : ∀ j, (w.setCell ⟨b, q, none⟩ v).cell? ⟨g, j, none⟩ = w.cell? ⟨g, j, none⟩ := fun j => World.cell?_setCell_other _ _ _ _ (by intro he; injection he with he; exact hne he.symm)
    rw [k, k, k]
    exact h i hi
theorem RdX.rd {w : World} {A : Option Addr} {l : List Tok} {b : Nat} (h : RdX w A l b) : Rd w A l := by
  rcases h with h | ⟨g, e, h, hlt, _⟩
  · exact .inl h
  · exact .inr ⟨g, e, h, hlt⟩
theorem rdX_of {w : World} {base cap b : Nat} {A : Option Addr} {l : List Tok} (h : w.ownsRow base 33 3 (.slice A l.length cap) l.length (cells l)) (hb : ∀ k, (Value.slice A l.length cap).ownBlock = some k → k ≠ b) : RdX w A l b := by
  rcases rd_of h with h0 | ⟨g, e, hl, hlt⟩
  · exact .inl h0
  · subst e
    exact .inr ⟨g, rfl, hl, hlt, hb g rfl⟩
theorem rdx_at {w : World} {A : Option Addr} {l : List Tok} {b : Nat} (h : RdX w A l b) {k : Nat} (hk : k < l.length) : ∃ g, A = some ⟨g, 0, none⟩ ∧ Lies w g l ∧ g < w.heap.size ∧ g ≠ b := by
  rcases h with h | h
  · subst h; exact absurd hk (by simp)
  · exact h

structure WInv (w : World) (A1 A2 : Option Addr) (L C : List Tok) (gb : Nat) (l : Bs) (i k : Nat) (wr : World) : Prop where
  b : Below w.heap.size w wr
  hg : w.heap.size ≤ gb
  rl : RdX wr A1 L gb
  rc : RdX wr A2 C gb
  y : Byt wr gb (fillK C l i k)
theorem WInv.drewN {w : World} {A1 A2 : Option Addr} {L C : List Tok} {gb : Nat} {l : Bs} {i k : Nat} {wr : World} (h : WInv w A1 A2 L C gb l i k wr) (n : Nat) : WInv w A1 A2 L C gb l i k (wr.drewN n) :=
  ⟨h.b.trans (below_draws _ _ _), h.hg, h.rl.drewN n, h.rc.drewN n, h.y.drewN n⟩
theorem WInv.put {w : World} {A1 A2 : Option Addr} {L C : List Tok} {gb : Nat} {l : Bs} {i k : Nat} {wr : World} (h : WInv w A1 A2 L C gb l i k wr) (hi : i < C.length) (hk : k < C[i].t.length) (hb : C[i].a + k < l.length) :
    WInv w A1 A2 L C gb l i (k + 1) (wr.setCell ⟨gb, C[i].a + k, none⟩ (.int .u8 32)) :=
  ⟨h.b.setCell (p := ⟨gb, C[i].a + k, none⟩) h.hg _, h.hg, h.rl.set _ _, h.rc.set _ _, by
    rw [fill_succ C l i k hi hk hb]
    exact h.y.set (C[i].a + k) 32⟩

theorem bytes_byt (w : World) (s : ByteArray) (cap : Nat) : Byt (w.alloc (.cells (bytesRow s cap) 5 ((bytesRow s cap).size, (bytesRow s cap).size + 1))).drew w.heap.size s.data.toList := by
  have hb : (w.alloc (.cells (bytesRow s cap) 5 ((bytesRow s cap).size, (bytesRow s cap).size + 1))).heap[w.heap.size]? = some (.cells (bytesRow s cap) 5 ((bytesRow s cap).size, (bytesRow s cap).size + 1)) := heap_alloc_new w _
  refine ⟨by show _ < (w.alloc _).heap.size; simp, fun j hj => ?_⟩
  have hj2 : j < s.data.size := by simpa using hj
  have hc : (bytesRow s cap)[j]? = some (.int .u8 (s.data.toList[j].toNat : Int)) := by
    unfold bytesRow
    rw [Array.getElem?_append_left (by simpa using hj2)]
    simp [Array.getElem?_eq_getElem hj2]
  have hlt : j < (bytesRow s cap).size := (Array.getElem?_eq_some_iff.1 hc).1
  have h0 : (w.alloc (.cells (bytesRow s cap) 5 ((bytesRow s cap).size, (bytesRow s cap).size + 1))).frozen? ⟨w.heap.size, j, none⟩ = false := by
    unfold World.frozen?
    rw [hb]
    simp; omega
  have h1 : (w.alloc (.cells (bytesRow s cap) 5 ((bytesRow s cap).size, (bytesRow s cap).size + 1))).cell? ⟨w.heap.size, j, none⟩ = some (.int .u8 (s.data.toList[j].toNat : Int)) := by
    simp only [World.cell?, hb]; simpa using hc
  exact ⟨h1, h0⟩

set_option maxRecDepth 100000 in
theorem bare_long (s : ByteArray) (w : World) (hG : Glob w) (hs : 600 < s.size) (hm : s.size ≤ maxLen) : Calls Tryd.prog 9 #[.string s] w fun e w' => e = .returned (.bool true) ∧ Below w.heap.size w w' := by
  unfold maxLen at hm
  have HG := Lib.hid hG
  clear hG
  have hd : decide ((600 : Int) < (s.size : Int)) = true := by simp; omega
  have hd2 : (600 : Int) < (s.size : Int) := by omega
  go_enter Tryd.func9, Tryd.ntmps9
  go_wp2_with fail
  refine (awake_any _ HG.out).mono ?_
  rintro e w1 ⟨rfl, hb1⟩
  go_wp2
  go_ret
  exact ⟨rfl, hb1⟩

set_option maxRecDepth 100000 in
set_option maxHeartbeats 2000000 in
theorem bare_short (s : ByteArray) (w : World) (hG : Glob w) (hs : s.size ≤ 600) : Calls Tryd.prog 9 #[.string s] w fun e w' => e = .returned (.bool true) ∧ Below w.heap.size w w' := by
  have HG := Lib.hid hG
  clear hG
  have HM : Hid (s.size ≤ maxLen) := Lib.hid (by unfold maxLen; omega)
  have hd : decide ((600 : Int) < (s.size : Int)) = false := by simp; omega
  have hcv := fun w => run_bytes_of_string (P := Tryd.prog) w 9 31 5 s Tryd.underlying9 Tryd.underlying31 Tryd.underlying5
  have HB := Lib.hid (bare_ok (l := s.data.toList) (by rw [← size_list]; omega))
  have HC := Lib.hid (com_in (l := s.data.toList) (by rw [← size_list]; omega))
  obtain ⟨L, hL⟩ : ∃ L, scanL s.data.toList = L := ⟨_, rfl⟩
  obtain ⟨a0, hA⟩ : ∃ a, scanA s.data.toList = a := ⟨_, rfl⟩
  obtain ⟨e0, hE⟩ : ∃ e, scanE s.data.toList = e := ⟨_, rfl⟩
  obtain ⟨C, hC⟩ : ∃ C, comL s.data.toList = C := ⟨_, rfl⟩
  have HLL := Lib.hid (scanL_len s.data.toList)
  have HCL := Lib.hid (comL_len s.data.toList)
  have HBR : Hid (bare s.data.toList = blk C 0 s.data.toList) := Lib.hid (by unfold bare; rw [hC])
  rw [hL, hA, hE] at HB
  rw [hC] at HC HCL
  rw [hL] at HLL
  have HL := Lib.hid hL
  have HA := Lib.hid hA
  have HE := Lib.hid hE
  have HCC := Lib.hid hC
  clear hL hA hE hC
  go_enter Tryd.func9, Tryd.ntmps9
  go_wp2_with fail
  refine (awake_any _ HG.out).mono ?_
  rintro e w1 ⟨rfl, hb1⟩
  have G1 := Lib.hid (HG.out.below hb1)
  have B1 := Lib.hid hb1
  clear hb1
  go_wp2_with fail
  refine (scan_of s w1 HM.out G1.out HL.out HA.out HE.out).mono ?_
  rintro e w2 ⟨A1, c1, rfl, ho1, hb2⟩
  have O1 := Lib.hid ho1
  have G2 := Lib.hid (G1.out.below hb2)
  have B2 := Lib.hid (B1.out.trans (hb2.mono B1.out.size))
  clear ho1 hb2 B1 G1
  have Y2 := Lib.hid (bytes_byt w2 s (grownCap w2 s.size 0 5))
  have B3 : Hid (Below w2.heap.size w2 (w2.alloc (.cells (bytesRow s (grownCap w2 s.size 0 5)) 5 ((bytesRow s (grownCap w2 s.size 0 5)).size, (bytesRow s (grownCap w2 s.size 0 5)).size + 1))).drew) := Lib.hid (((Below.refl _ _).alloc (Nat.le_refl _) _).drew)
  have G3 := Lib.hid (G2.out.below B3.out)
  have hz2 := B2.out.size
  go_wp2_with fail
  refine (comments_of s _ HM.out G3.out HCC.out).mono ?_
  rintro e w3 ⟨A2, c2, rfl, ho2, hb3⟩
  have I0 : Hid (WInv w A1 A2 L C w2.heap.size s.data.toList 0 0 w3) := Lib.hid (by
    have hzz : (w2.alloc (.cells (bytesRow s (grownCap w2 s.size 0 5)) 5 ((bytesRow s (grownCap w2 s.size 0 5)).size, (bytesRow s (grownCap w2 s.size 0 5)).size + 1))).drew.heap.size = w2.heap.size + 1 := by show (w2.alloc _).heap.size = _; simp
    rw [hzz] at hb3 ho2
    refine ⟨(B2.out.trans (B3.out.mono hz2)).trans (hb3.mono (by omega)), hz2, ?_, ?_, ?_⟩
    · refine RdX.below ?_ (by rw [hzz]; exact hb3)
      refine RdX.below ?_ B3.out
      exact rdX_of O1.out (fun k hk => by have := (O1.out.lt k hk).2; omega)
    · exact rdX_of ho2 (fun k hk => by have := (ho2.lt k hk).1; omega)
    · rw [fill_zero]
      exact Y2.out.below hb3 (by omega))
  have G4 := Lib.hid (G2.out)
  clear ho2 hb3 B3 Y2 O1 G3
  go_wp2_with fail
  go_loopw [8] (fun i wr => ∃ i' : Nat, i' ≤ C.length ∧ i = .int .i64 i' ∧ WInv w A1 A2 L C w2.heap.size s.data.toList i' 0 wr) (fun i _ => C.length - (intOf i).toNat)
  case atStart => exact ⟨0, Nat.zero_le _, rfl, I0.out⟩
  case round =>
    obtain ⟨i, hi, rfl, hw⟩ := hrel
    have IV := Lib.hid hw
    clear hw I0
    by_cases hil : i < C.length
    · have hil1 : (i : Int) < (C.length : Int) := by omega
      go_wp2_with fail
      obtain ⟨wo, rfl⟩ : ∃ wo : World, wo = wr := ⟨_, rfl⟩
      go_loopw [9] (fun k wr => ∃ k' : Nat, k' ≤ C[i].t.length ∧ k = .int .i64 k' ∧ WInv w A1 A2 L C w2.heap.size s.data.toList i k' wr) (fun k _ => C[i].t.length - (intOf k).toNat)
      case atStart => exact ⟨0, Nat.zero_le _, rfl, IV.out⟩
      case round =>
        obtain ⟨k, hk, rfl, hw⟩ := hrel
        have KV := Lib.hid hw
        clear hw
        obtain ⟨g, rfl, hlie, hg, hne⟩ := rdx_at KV.out.rc hil
        obtain ⟨d0, d1, d2⟩ := hlie i hil
        have hin : C[i].a + C[i].t.length ≤ s.size := by have := HC.out C[i] (List.getElem_mem hil); rw [← size_list] at this; exact this
        by_cases hkl : k < C[i].t.length
        · have R := Lib.hid (KV.out.put hil hkl (by rw [← size_list]; omega))
          obtain ⟨vb, y0, y1⟩ : ∃ v, wr.cell? ⟨w2.heap.size, C[i].a + k, none⟩ = some v ∧ wr.frozen? ⟨w2.heap.size, C[i].a + k, none⟩ = false := ⟨_, KV.out.y.2 (C[i].a + k) (by rw [fill_len, ← size_list]; omega)⟩
          clear hlie
          generalize C[i] = t at *
          have f1 : ((⟨t.t.toArray⟩ : ByteArray).size : Int) = (t.t.length : Int) := rfl
          have f2 : decide ((k : Int) < (t.t.length : Int)) = true := by simp; omega
          have f3 : (0 : Int) ≤ (t.a : Int) + k := by omega
          have f4 : (t.a : Int) + k < (s.size : Int) := by omega
          have f5 : decide ((s.size : Int) ≤ (t.a : Int) + k) = false := by simp; omega
          have f6 : ((t.a : Int) + k).toNat = t.a + k := by omega
          have f7 : decide ((t.a : Int) < 0) = false := by simp
          go_wp2_with fail
          go_roundw
          case rel => exact ⟨k + 1, by omega, by go_num, R.out⟩
          case measure => simp [intOf]; omega
        · obtain rfl : k = C[i].t.length := by omega
          have R : Hid (WInv w A1 (some ⟨g, 0, none⟩) L C w2.heap.size s.data.toList (i + 1) 0 wr) := Lib.hid ⟨KV.out.b, KV.out.hg, KV.out.rl, KV.out.rc, by rw [← fill_next C _ i hil]; exact KV.out.y⟩
          clear hlie
          generalize C[i] = t at *
          have f1 : ((⟨t.t.toArray⟩ : ByteArray).size : Int) = (t.t.length : Int) := rfl
          have f2 : decide ((t.t.length : Int) < (t.t.length : Int)) = false := by simp
          have f3 : (i : Int) < 20000 := by have := HCL.out; omega
          go_wp2_with fail
          go_roundw
          case rel => exact ⟨i + 1, by omega, by go_num, R.out⟩
          case measure => simp [intOf]; omega
    · obtain rfl : i = C.length := by omega
      have f1 : decide ((C.length : Int) < (C.length : Int)) = false := by simp
      have hy : Byt wr w2.heap.size (bare s.data.toList) := by rw [HBR.out, ← fill_last]; exact IV.out.y
      have hbl : (bare s.data.toList).length = s.size := by unfold bare; rw [blk_len, ← size_list]
      have hcx := hy.text (cap := grownCap w2 s.size 0 5) hbl
      obtain ⟨sb, hsb⟩ : ∃ sb : ByteArray, sb = ⟨(bare s.data.toList).toArray⟩ := ⟨_, rfl⟩
      have HM4 : Hid (sb.size ≤ maxLen) := Lib.hid (by rw [hsb]; show (bare s.data.toList).toArray.size ≤ _; simp [hbl]; exact HM.out)
      have G5 := Lib.hid (HG.out.below IV.out.b)
      have q1 : Hid (scanL sb.data.toList = L) := Lib.hid (by rw [hsb]; exact HB.out.1)
      have q2 : Hid (scanA sb.data.toList = a0) := Lib.hid (by rw [hsb]; exact HB.out.2.1)
      have q3 : Hid (scanE sb.data.toList = e0) := Lib.hid (by rw [hsb]; exact HB.out.2.2)
      rw [← hsb] at hcx
      clear hbl hy hcv hsb
      go_wp2_with fail
      refine (scan_of sb wr HM4.out G5.out q1.out q2.out q3.out).mono ?_
      rintro e w5 ⟨A5, c5, rfl, ho5, hb5⟩
      have R5 := Lib.hid (rd_of ho5)
      have R1 := Lib.hid (IV.out.rl.rd.below hb5)
      have B5 := Lib.hid (IV.out.b.trans (hb5.mono IV.out.b.size))
      clear ho5 hb5 hcx
      have f2 : ((a0 : Int) == (a0 : Int)) = true := by simp
      have f3 : ((e0 : Int) == (e0 : Int)) = true := by simp
      go_wp2_with fail
      refine (same_any A1 A5 c1 c5 L w5 (by have := HLL.out; omega) R1.out R5.out).mono ?_
      rintro e w6 ⟨rfl, hdr⟩
      have B6 : Hid (Below w.heap.size w w6) := by obtain ⟨n, rfl⟩ := hdr; exact B5.out.trans (below_draws _ _ _)
      clear hdr
      go_wp2
      go_ret
      exact ⟨rfl, B6.out⟩
end Go.Proofs.YtaalgkcbknlccaaDoor
