/-
  Bytes in a row of the call's own; the walk of the law ScanLong.
-/
import Derived.Test.YtaalgkcbknlccaaDoorL5
import Derived.Test.YtaalgkcbknlccaaDoorMath6
import Derived.Deep.OwnRows
import Derived.Laws.IdiomStrings
namespace Go.Proofs.YtaalgkcbknlccaaDoor
open Go.RowKit M

/-- In w, block g holds the bytes l from its head on, and they may be written. -/
def Byt (w : World) (g : Nat) (l : Bs) : Prop := g < w.heap.size ∧ ∀ j (h : j < l.length), w.cell? ⟨g, j, none⟩ = some (.int .u8 (l[j].toNat : Int)) ∧ w.frozen? ⟨g, j, none⟩ = false
theorem Byt.below {w w' : World} {B g : Nat} {l : Bs} (h : Byt w g l) (hb : Below B w w') (hg : g < B) : Byt w' g l :=
  ⟨by have := hb.size; have := h.1; omega, fun j hj => ⟨(hb.cell (p := ⟨g, j, none⟩) hg).trans (h.2 j hj).1, (hb.frozen (p := ⟨g, j, none⟩) hg).trans (h.2 j hj).2⟩⟩
theorem Byt.drewN {w : World} {g : Nat} {l : Bs} (h : Byt w g l) (n : Nat) : Byt (w.drewN n) g l := h
theorem Byt.set {w : World} {g : Nat} {l : Bs} (h : Byt w g l) (q : Nat) (b : UInt8) : Byt (w.setCell ⟨g, q, none⟩ (.int .u8 (b.toNat : Int))) g (l.set q b) := by
  refine ⟨by simpa using h.1, fun j hj => ?_⟩
  simp only [List.length_set] at hj
  obtain ⟨h1, h2⟩ := h.2 j hj
  refine ⟨?_, by simpa using h2⟩
  by_cases e : q = j
  · subst e
    rw [World.cell?_setCell_same _ _ _ h1]; simp
  · rw [World.cell?_setCell_other _ _ _ _ (by intro he; injection he with _ he; exact e he), h1, List.getElem_set_ne e]
theorem Byt.text {w : World} {g n cap : Nat} {l : Bs} (h : Byt w g l) (hl : l.length = n) : (convert 31 9 (.slice (some ⟨g, 0, none⟩) n cap)).run Tryd.prog w = .ok (.string ⟨l.toArray⟩) w := by
  subst hl
  refine run_convert_bytes_back w 31 9 5 ⟨g, 0, none⟩ cap l Tryd.underlying31 Tryd.underlying5 Tryd.underlying9 (fun j hj => ?_)
  have : (⟨g, 0, none⟩ : Addr).add j = ⟨g, j, none⟩ := by unfold Addr.add; split <;> simp_all
  rw [this]
  exact (h.2 j hj).1
theorem byt_made (w : World) (n : Nat) : Byt (w.alloc (.cells (madeCells #[.int .u8 0] n) 5)) w.heap.size (List.replicate n 0) := by
  have hb : (w.alloc (.cells (madeCells #[.int .u8 0] n) 5)).heap[w.heap.size]? = some (.cells (madeCells #[.int .u8 0] n) 5 (0, 0)) := heap_alloc_new w _
  refine ⟨by simp, fun j hj => ?_⟩
  have hj2 : j < n := by simpa using hj
  refine ⟨?_, by unfold World.frozen?; rw [hb]; simp⟩
  simp only [World.cell?, hb]
  simp [madeCells, hj2, Nat.mod_one]
/-- Behind k rounds. -/
def whiteK (n k : Nat) : List UInt8 := List.replicate k 32 ++ List.replicate (n - k) 0
theorem whiteK_len {n k : Nat} (h : k ≤ n) : (whiteK n k).length = n := by simp [whiteK]; omega
theorem whiteK_zero (n : Nat) : whiteK n 0 = List.replicate n 0 := by simp [whiteK]
theorem whiteK_all (n : Nat) : whiteK n n = List.replicate n 32 := by simp [whiteK]
theorem whiteK_succ {n k : Nat} (h : k < n) : (whiteK n k).set k 32 = whiteK n (k + 1) := by
  unfold whiteK
  have e : n - k = (n - (k + 1)) + 1 := by omega
  rw [e, List.set_append_right _ _ (by simp), List.replicate_succ' (n := k)]
  simp [List.replicate_succ]

theorem char_ok (c : Nat) : ∃ x : UInt8, (x.toNat : Int) = 97 + (c : Int) % 26 ∧ 97 ≤ x.toNat ∧ x.toNat ≤ 122 := by
  refine ⟨UInt8.ofNat (97 + c % 26), ?_, ?_, ?_⟩ <;> (simp [UInt8.toNat_ofNat]; omega)

theorem one_text (w : World) (x : UInt8) : (convert 31 9 (.slice (some ⟨w.heap.size, 0, none⟩) 1 1)).run Tryd.prog (w.alloc (.cells #[.int .u8 (x.toNat : Int)] 5)) = .ok (.string ⟨#[x]⟩) (w.alloc (.cells #[.int .u8 (x.toNat : Int)] 5)) := by
  have hb : (w.alloc (.cells #[.int .u8 (x.toNat : Int)] 5)).heap[w.heap.size]? = some (.cells #[.int .u8 (x.toNat : Int)] 5 (0, 0)) := heap_alloc_new w _
  refine Byt.text (l := [x]) ⟨by simp, fun j hj => ?_⟩ rfl
  have : j = 0 := by simpa using hj
  subst this
  exact ⟨by simp only [World.cell?, hb]; rfl, by unfold World.frozen?; rw [hb]; rfl⟩

/-- Scan, at a text of which all is known. -/
theorem scan_of (s : ByteArray) (w : World) (hm : s.size ≤ maxLen) (hG : Glob w) {L : List Tok} {a e : Nat} (hL : scanL s.data.toList = L) (ha : scanA s.data.toList = a) (he : scanE s.data.toList = e) :
    Calls Tryd.prog 12 #[.string s] w (Reads w L a e) := by
  subst hL ha he; exact scan_any s w hm hG
theorem comments_of (s : ByteArray) (w : World) (hm : s.size ≤ maxLen) (hG : Glob w) {L : List Tok} (hL : comL s.data.toList = L) :
    Calls Tryd.prog 15 #[.string s] w (Kept w w.heap.size L) := by
  subst hL; exact comments_any s w hm hG

set_option maxRecDepth 100000 in
set_option maxHeartbeats 1000000 in
theorem long_law (n c : Nat) (hn : n ≤ 65535) (hc : c ≤ 255) (w : World) (hG : Glob w) :
    Calls Tryd.prog 5 #[.int .u16 (n : Int), .int .u8 (c : Int)] w fun e w' => e = .returned (.bool true) ∧ Below w.heap.size w w' := by
  have HG := Lib.hid hG
  clear hG
  have hn2 : (n : Int) ≤ 65535 := by omega
  have hc2 : (c : Int) ≤ 255 := by omega
  have hmk := fun w => run_make_row' (P := Tryd.prog) 31 5 (.int .u8 0) 1 Tryd.underlying31 infoByte rfl .i64 .i64 n (by omega) (by omega) w
  go_enter Tryd.func5, Tryd.ntmps5
  go_wp2_with fail
  refine (awake_any _ HG.out).mono ?_
  rintro e w1 ⟨rfl, hb1⟩
  have G1 := Lib.hid (HG.out.below hb1)
  have B1 := Lib.hid hb1
  clear hb1
  have Y0 := Lib.hid (byt_made w1 n)
  go_wp2_with fail
  go_loopw [6] (fun i wr => ∃ k : Nat, k ≤ n ∧ i = .int .i64 k ∧ Byt wr w1.heap.size (whiteK n k) ∧ Below w1.heap.size w1 wr) (fun i _ => n - (intOf i).toNat)
  case atStart => exact ⟨0, Nat.zero_le _, rfl, by rw [whiteK_zero]; exact Y0.out, (Below.refl _ _).alloc (Nat.le_refl _) _⟩
  case round =>
    obtain ⟨k, hk, rfl, hy, hbr⟩ := hrel
    have Y := Lib.hid hy
    have BR := Lib.hid hbr
    clear hy hbr Y0
    by_cases hkn : k < n
    · have hkn1 : (k : Int) < (n : Int) := by omega
      obtain ⟨c0, f0⟩ := Y.out.2 k (by rw [whiteK_len hk]; exact hkn)
      have R : Hid (Byt (wr.setCell ⟨w1.heap.size, k, none⟩ (.int .u8 32)) w1.heap.size (whiteK n (k + 1))) := Lib.hid (by
        rw [← whiteK_succ hkn]; exact Y.out.set k 32)
      go_wp2
      go_roundw
      case rel => exact ⟨k + 1, by omega, by go_num, R.out, BR.out.setCell (p := ⟨w1.heap.size, k, none⟩) (Nat.le_refl _) _⟩
      case measure => simp [intOf]; omega
    · obtain rfl : k = n := by omega
      have hkn1 : decide ((k : Int) < (k : Int)) = false := by simp
      rw [whiteK_all] at Y
      have hcv := Y.out.text (n := k) (cap := k) (by simp)
      obtain ⟨x, hx, hx1, hx2⟩ := char_ok c
      have HX := Lib.hid hx
      have hcv2 := one_text wr x
      rw [hx] at hcv2
      clear hx
      go_wp2_with fail
      have HD : Hid (({ data := Array.replicate k 32 } ++ { data := #[x] } : ByteArray).data.toList = longT k x) := Lib.hid (by simp [longT])
      generalize ({ data := Array.replicate k 32 } ++ { data := #[x] } : ByteArray) = s at *
      have hsz : s.size = k + 1 := by rw [size_list, HD.out, longT_len]
      have HM : Hid (s.size ≤ maxLen) := Lib.hid (by unfold maxLen; omega)
      have HD2 : Hid (({ data := #[47, 47] } ++ s : ByteArray).data.toList = 47 :: 47 :: longT k x) := Lib.hid (by rw [ByteArray.data_append, Array.toList_append, HD.out]; rfl)
      have HM2 : Hid (({ data := #[47, 47] } ++ s : ByteArray).size ≤ maxLen) := Lib.hid (by rw [size_list, HD2.out]; simp [longT_len]; unfold maxLen; omega)
      have HS := Lib.hid hsz
      have hs1 : s.size ≤ 65536 := by omega
      clear hsz
      have B2 : Hid (Below w1.heap.size w1 (wr.alloc (.cells #[.int .u8 (97 + (c : Int) % 26)] 5))) := Lib.hid (BR.out.alloc BR.out.size _)
      have G2 := Lib.hid (G1.out.below B2.out)
      have B3 := Lib.hid (B1.out.trans (B2.out.mono B1.out.size))
      clear hcv hcv2 hmk hkn1 hkn BR Y
      by_cases h1 : 20000 < k + 1
      · obtain ⟨e1, e2, e3, _⟩ := long_no (l := longT k x) (by rw [longT_len]; exact h1)
        obtain ⟨_, _, _, e4⟩ := long_no (l := 47 :: 47 :: longT k x) (by simp [longT_len]; omega)
        rw [← HD.out] at e1 e2 e3
        rw [← HD2.out] at e4
        have E4 := Lib.hid e4
        clear e4
        refine (scan_of s _ HM.out G2.out e1 e2 e3).mono ?_
        rintro e w2 ⟨A1, c1, rfl, ho, hb2⟩
        have G3 := Lib.hid (G2.out.below hb2)
        have B4 := Lib.hid (B3.out.trans (hb2.mono B3.out.size))
        clear e1 e2 e3 ho hb2 B2 B3 G2
        go_wp2_with fail
        refine (comments_of _ _ HM2.out G3.out E4.out).mono ?_
        rintro e w3 ⟨A2, c2, rfl, ho2, hb3⟩
        have B5 := Lib.hid (B4.out.trans (hb3.mono B4.out.size))
        have hd1 : decide ((20000 : Int) < (s.size : Int)) = true := by have := HS.out; simp; omega
        clear ho2 hb3 B4 G3
        go_wp2
        go_ret
        exact ⟨rfl, B5.out⟩
      · obtain ⟨e1, e3⟩ := long_ok (n := k) hx1 hx2 (by omega)
        rw [← HD.out] at e1 e3
        have e2 := scanA_zero _ e3
        have hd1 : decide ((20000 : Int) < (s.size : Int)) = false := by have := HS.out; simp; omega
        have hd3 : (s.size : Int) = (k : Int) + 1 := by have := HS.out; omega
        have HD3 := Lib.hid hd3
        clear hd3
        by_cases h2 : k + 3 ≤ 20000
        · have e4 := com_long (n := k) hx1 h2
          rw [← HD2.out] at e4
          have E4 := Lib.hid e4
          clear e4
          refine (scan_of s _ HM.out G2.out e1 e2 e3).mono ?_
          rintro e w2 ⟨A1, c1, rfl, ho, hb2⟩
          have G3 := Lib.hid (G2.out.below hb2)
          have B4 := Lib.hid (B3.out.trans (hb2.mono B3.out.size))
          have R1 := Lib.hid (rd_of ho)
          clear e1 e2 e3 ho hb2 B2 B3 G2
          go_wp2_with fail
          refine (comments_of _ _ HM2.out G3.out E4.out).mono ?_
          rintro e w3 ⟨A2, c2, rfl, ho2, hb3⟩
          have B5 := Lib.hid (B4.out.trans (hb3.mono B4.out.size))
          obtain ⟨g, rfl, hl, _⟩ := lies_rd (R1.out.below hb3) (k := 0) (by simp)
          have d2 : w3.cell? ⟨g, 2, none⟩ = some (.int .i64 (k : Int)) := (hl 0 (by simp)).2.2
          clear ho2 hb3 B4 G3 R1 hl
          have hd3 := HD3.out
          have hd4 : decide ((20000 : Int) < (k : Int) + 1 + 2) = false := by simp; omega
          go_wp2
          go_ret
          exact ⟨rfl, B5.out⟩
        · obtain ⟨_, _, _, e4⟩ := long_no (l := 47 :: 47 :: longT k x) (by simp [longT_len]; omega)
          rw [← HD2.out] at e4
          have E4 := Lib.hid e4
          clear e4
          refine (scan_of s _ HM.out G2.out e1 e2 e3).mono ?_
          rintro e w2 ⟨A1, c1, rfl, ho, hb2⟩
          have G3 := Lib.hid (G2.out.below hb2)
          have B4 := Lib.hid (B3.out.trans (hb2.mono B3.out.size))
          have R1 := Lib.hid (rd_of ho)
          clear e1 e2 e3 ho hb2 B2 B3 G2
          go_wp2_with fail
          refine (comments_of _ _ HM2.out G3.out E4.out).mono ?_
          rintro e w3 ⟨A2, c2, rfl, ho2, hb3⟩
          have B5 := Lib.hid (B4.out.trans (hb3.mono B4.out.size))
          obtain ⟨g, rfl, hl, _⟩ := lies_rd (R1.out.below hb3) (k := 0) (by simp)
          have d2 : w3.cell? ⟨g, 2, none⟩ = some (.int .i64 (k : Int)) := (hl 0 (by simp)).2.2
          clear ho2 hb3 B4 G3 R1 hl
          have hd3 := HD3.out
          have hd4 : decide ((20000 : Int) < (k : Int) + 1 + 2) = true := by simp; omega
          go_wp2
          go_ret
          exact ⟨rfl, B5.out⟩
end Go.Proofs.YtaalgkcbknlccaaDoor
