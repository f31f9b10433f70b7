/-
  The tables of the library; numbers as text, by the program and by the specification; decimals.
-/
import Derived.Test.YtekfhgldebhigaaDoorTB
import Derived.Test.YtekfhgldebhigaaDoorRA
import Derived.Test.YtekfhgldebhigaaDoorCB
import Derived.Lib.AppendIntMem
import Derived.Laws.IdiomStrings
import Derived.Deep.RegionLaw
set_option linter.all false
namespace Go.Proofs.YtekfhgldebhigaaDoor
open Go.RowKit C
/-- The library's tables are there. -/
structure Tb (w : World) : Prop where
  pow : Lib.TabIs Tryd.prog w "internal/strconv.uint64pow10" .u64 Lib.pow10Tab
  spc : Lib.TabIs Tryd.prog w "strings.asciiSpace" .u8 Lib.asciiSpaceTab
  sz : 5 ≤ w.heap.size
theorem gtab1 : ∃ g, Tryd.prog.globalNamed "internal/strconv.uint64pow10" = some g ∧ g < 5 := by
  have h : (Tryd.prog.globalNamed "internal/strconv.uint64pow10").map (fun g => decide (g < 5)) = some true := by kernel_rfl
  obtain ⟨g, hg, hd⟩ := Option.map_eq_some_iff.1 h
  exact ⟨g, hg, by simpa using hd⟩
theorem gtab2 : ∃ g, Tryd.prog.globalNamed "strings.asciiSpace" = some g ∧ g < 5 := by
  have h : (Tryd.prog.globalNamed "strings.asciiSpace").map (fun g => decide (g < 5)) = some true := by kernel_rfl
  obtain ⟨g, hg, hd⟩ := Option.map_eq_some_iff.1 h
  exact ⟨g, hg, by simpa using hd⟩
theorem tab_below {B : Nat} {w w' : World} {nm : String} {k : IntKind} {t : List Int} (hn : ∃ g, Tryd.prog.globalNamed nm = some g ∧ g < 5) (h : Lib.TabIs Tryd.prog w nm k t) (hb : Below B w w') (hB : 5 ≤ B) : Lib.TabIs Tryd.prog w' nm k t := by
  obtain ⟨g, hg, hl⟩ := hn
  unfold Lib.TabIs World.var? at h ⊢
  rw [hg] at h ⊢
  simp only [Option.bind_some] at h ⊢
  rw [hb.block g (by omega)]
  exact h
theorem Tb.below {B : Nat} {w w' : World} (h : Tb w) (hb : Below B w w') (hB : 5 ≤ B) : Tb w' := ⟨tab_below gtab1 h.pow hb hB, tab_below gtab2 h.spc hb hB, Nat.le_trans h.sz hb.size⟩
theorem Tb.step {w w' : World} (h : Tb w) (hb : Below w.heap.size w w') : Tb w' := h.below hb h.sz
/-- A call that answers with a text and leaves what was. -/
abbrev RT (f : FuncId) (args : Array Value) (w : World) (t : Bs) : Prop := Calls Tryd.prog f args w fun e w' => e = .returned (.string (txt t)) ∧ Below w.heap.size w w'
theorem itoa_any (n : Int) (hn : i64 n) (w : World) (h : Tb w) : RT 51 #[.int .i64 n] w (Lib.itoa n) := by
  refine (Tryd.strconv_Itoa n hn.1 hn.2 w h.pow).mono ?_
  rintro e w' ⟨rfl, k, os, rfl⟩
  exact ⟨rfl, Lib.below_grow _ _ (Nat.le_refl _) _ _⟩
/-! ### the specification's numbers -/
theorem byte_at1 (W : World) (b : Nat) (x : UInt8) (hb : W.heap[b]? = some (.cells #[.int .u8 (x.toNat : Int)] 5 (0, 0))) : (convert 48 9 (.slice (some ⟨b, 0, none⟩) 1 1)).run Tryd.prog W = .ok (.string ⟨#[x]⟩) W := by
  refine run_convert_bytes_back W 48 9 5 ⟨b, 0, none⟩ 1 [x] Tryd.underlying48 Tryd.underlying5 Tryd.underlying9 (fun j hj => ?_)
  have : j = 0 := by simpa using hj
  subst this
  have e : (⟨b, 0, none⟩ : Addr).add 0 = ⟨b, 0, none⟩ := rfl
  rw [e]
  simp [World.cell?, hb]
theorem byte_new1 (w : World) (x : UInt8) : (convert 48 9 (.slice (some ⟨w.heap.size, 0, none⟩) 1 1)).run Tryd.prog (w.alloc (.cells #[.int .u8 (x.toNat : Int)] 5)) = .ok (.string ⟨#[x]⟩) (w.alloc (.cells #[.int .u8 (x.toNat : Int)] 5)) := byte_at1 _ _ x (heap_alloc_new w _)
theorem dig_byte (k : Nat) (hk : k < 10) : IntKind.u8.wrap (48 + (k : Int)) = ((UInt8.ofNat (48 + k)).toNat : Int) := by
  have : (UInt8.ofNat (48 + k)).toNat = 48 + k := by simp [UInt8.toNat_ofNat]; omega
  rw [this]
  have h2 : IntKind.u8.wrap (48 + (k : Int)) = 48 + (k : Int) := by
    rcases (by omega : k = 0 ∨ k = 1 ∨ k = 2 ∨ k = 3 ∨ k = 4 ∨ k = 5 ∨ k = 6 ∨ k = 7 ∨ k = 8 ∨ k = 9) with rfl | rfl | rfl | rfl | rfl | rfl | rfl | rfl | rfl | rfl <;> decide
  rw [h2]; omega
theorem str_fin {a b : ByteArray} (h : a.data.toList = b.data.toList) : Ending.returned (.string a) = .returned (.string b) := by
  rw [ByteArray.ext (Array.toList_inj.1 h)]
theorem dig_len (v : Nat) (h : v < 18446744073709551616) : (Lib.decDigits v).length ≤ 20 := by
  rw [Lib.decDigits_length]; exact nDigits_le (by have : (10 : Nat) ^ (19 + 1) = 100000000000000000000 := by decide
                                                  omega)
set_option maxRecDepth 100000 in
set_option maxHeartbeats 8000000 in
theorem rnum_low (v : Nat) (hv : v < 10) (w : World) : RT 24 #[.int .i64 (v : Int)] w (Lib.decDigits v) := by
  have h1 : (v : Int) < 10 := by omega
  have h0 : ¬ (v : Int) < 0 := by omega
  have h2 : ¬ (10 : Int) ≤ (v : Int) := by omega
  have hw : IntKind.i64.wrap (48 + (v : Int)) = 48 + (v : Int) := IntWalk.i64_in _ (by omega)
  have hb := dig_byte v hv
  have HD : Hid (Lib.decDigits v = [UInt8.ofNat (48 + v)]) := Lib.hid (Lib.decDigits_one hv)
  obtain ⟨x, hx⟩ : ∃ x, UInt8.ofNat (48 + v) = x := ⟨_, rfl⟩
  rw [hx] at hb HD
  have ht := fun W => byte_new1 W x
  clear hv hx
  go_enter Tryd.func24, Tryd.ntmps24
  go_wp2
  go_ret
  exact ⟨str_fin (by rw [HD.out]; rfl), below1 _ _⟩
set_option maxRecDepth 100000 in
set_option maxHeartbeats 8000000 in
theorem rnum_nat : ∀ (v : Nat), (v : Int) ≤ 9223372036854775807 → ∀ w : World, RT 24 #[.int .i64 (v : Int)] w (Lib.decDigits v) := by
  intro v
  induction v using Nat.strongRecOn with
  | _ v ih =>
    intro hv w
    by_cases hl : v < 10
    · exact rnum_low v hl w
    have h0 : ¬ (v : Int) < 0 := by omega
    have h1 : ¬ (v : Int) < 10 := by omega
    have h2 : (10 : Int) ≤ (v : Int) := by omega
    have HC0 : Hid (∀ V, Calls Tryd.prog 24 #[.int .i64 ((v / 10 : Nat) : Int)] V fun e w' => e = .returned (.string (txt (Lib.decDigits (v / 10)))) ∧ Below V.heap.size V w') := Lib.hid fun V => ih (v / 10) (by omega) (by omega) V
    have hb := dig_byte (v % 10) (by omega)
    have HD : Hid (Lib.decDigits v = Lib.decDigits (v / 10) ++ [UInt8.ofNat (48 + v % 10)]) := Lib.hid (by rw [Lib.decDigits, dif_neg hl])
    obtain ⟨x, hx⟩ : ∃ x, UInt8.ofNat (48 + v % 10) = x := ⟨_, rfl⟩
    rw [hx] at hb HD
    have hlen : (Lib.decDigits (v / 10)).length ≤ 20 := dig_len _ (by omega)
    obtain ⟨y, hy⟩ : ∃ y, txt (Lib.decDigits (v / 10)) = y := ⟨_, rfl⟩
    have HY : Hid (Lib.decDigits (v / 10) = y.data.toList) := Lib.hid (by rw [← hy]; rfl)
    have HFIN : Hid (txt (Lib.decDigits v) = y ++ (⟨#[x]⟩ : ByteArray)) := Lib.hid (by rw [HD.out, HY.out]; apply ByteArray.ext; apply Array.toList_inj.1; simp [txt])
    rw [hy] at HC0
    have HC1 : Hid (∀ V, Below w.heap.size w V → Calls Tryd.prog 24 #[.int .i64 ((v / 10 : Nat) : Int)] V fun e w' => e = .returned (.string y) ∧ Below w.heap.size w w' ∧ Below V.heap.size V w') := Lib.hid fun V hV => (HC0.out V).mono fun e w' hq => ⟨hq.1, hV.trans (hq.2.mono hV.size), hq.2⟩
    have hz : y.size ≤ 20 := by have e := congrArg List.length HY.out; have e2 : y.data.toList.length = y.size := rfl; omega
    have z0 : ¬ 9223372036854775807 < y.size + 1 := by omega
    obtain ⟨q, hq⟩ : ∃ q : Nat, v / 10 = q := ⟨_, rfl⟩
    obtain ⟨m, hm⟩ : ∃ m : Nat, v % 10 = m := ⟨_, rfl⟩
    have e1 : (v : Int).tdiv 10 = (q : Int) := by rw [← hq]; exact (Int.ofNat_tdiv v 10).symm
    have e2 : (v : Int).tmod 10 = (m : Int) := by rw [← hm]; exact (Int.ofNat_tmod v 10).symm
    have w1 : IntKind.i64.wrap (q : Int) = (q : Int) := IntWalk.i64_in _ (by omega)
    have w2 : IntKind.i64.wrap (m : Int) = (m : Int) := IntWalk.i64_in _ (by omega)
    have w3 : IntKind.i64.wrap (48 + (m : Int)) = 48 + (m : Int) := IntWalk.i64_in _ (by omega)
    rw [hq] at HC1
    rw [hm] at hb
    have ht := fun W => byte_new1 W x
    have ha := fun W b h => byte_at1 W b x h
    have ht2 := fun W : World => byte_at1 (W.alloc (.cells #[.int .u8 (x.toNat : Int)] 5)).drew W.heap.size x (heap_alloc_new W _)
    have ht3 := fun W : World => byte_at1 (W.drew.alloc (.cells #[.int .u8 (x.toNat : Int)] 5)) W.heap.size x (heap_alloc_new W.drew _)
    have ht4 := fun W : World => byte_at1 (W.drew.alloc (.cells #[.int .u8 (x.toNat : Int)] 5)).drew W.heap.size x (heap_alloc_new W.drew _)
    clear HC0 hx ih hy hz hlen hq hm hv hl
    go_enter Tryd.func24, Tryd.ntmps24
    go_wp2_with fail
    go_region_law ((go_simp; go_at_call 24; (with_reducible refine (HC1.out _ ?_).mono ?_); (first | exact Below.refl _ _ | exact Below.drew (Below.refl _ _) | exact below1 _ _ | exact Below.drew (below1 _ _) | exact (Below.drew (Below.refl _ _)).alloc (by simp) _ | exact Below.drew ((Below.drew (Below.refl _ _)).alloc (by simp) _)); rintro e W2 ⟨rfl, hbe, hb⟩; have HBE := Lib.hid hbe; (try have hcv := ha W2 _ ((hb.block _ (by simp)).trans (heap_alloc_new _ _))); clear hb hbe))
    all_goals
      go_wp2
      go_ret
      rw [HFIN.out]
      exact ⟨rfl, by first | exact HBE.out | exact Below.drew HBE.out | exact HBE.out.alloc HBE.out.size _ | exact Below.drew (HBE.out.alloc HBE.out.size _) | exact (Below.drew HBE.out).alloc HBE.out.size _⟩
theorem dd (u q m : Nat) (h : ¬ u < 10) (hq : u / 10 = q) (hm : u % 10 = m) : Lib.decDigits u = Lib.decDigits q ++ [UInt8.ofNat (48 + m)] := by rw [Lib.decDigits, dif_neg h, hq, hm]
theorem itoa_min : Lib.itoa (-9223372036854775808) = [45, 57, 50, 50, 51, 51, 55, 50, 48, 51, 54, 56, 53, 52, 55, 55, 53, 56, 48, 56] := by
  have h : ((-9223372036854775808 : Int)) = -((9223372036854775808 : Nat) : Int) := by decide
  rw [h, Lib.itoa_neg _ (by decide)]
  rw [dd 9223372036854775808 922337203685477580 8 (by omega) (by omega) (by omega), dd 922337203685477580 92233720368547758 0 (by omega) (by omega) (by omega), dd 92233720368547758 9223372036854775 8 (by omega) (by omega) (by omega), dd 9223372036854775 922337203685477 5 (by omega) (by omega) (by omega), dd 922337203685477 92233720368547 7 (by omega) (by omega) (by omega), dd 92233720368547 9223372036854 7 (by omega) (by omega) (by omega), dd 9223372036854 922337203685 4 (by omega) (by omega) (by omega), dd 922337203685 92233720368 5 (by omega) (by omega) (by omega), dd 92233720368 9223372036 8 (by omega) (by omega) (by omega), dd 9223372036 922337203 6 (by omega) (by omega) (by omega), dd 922337203 92233720 3 (by omega) (by omega) (by omega), dd 92233720 9223372 0 (by omega) (by omega) (by omega), dd 9223372 922337 2 (by omega) (by omega) (by omega), dd 922337 92233 7 (by omega) (by omega) (by omega), dd 92233 9223 3 (by omega) (by omega) (by omega), dd 9223 922 3 (by omega) (by omega) (by omega), dd 922 92 2 (by omega) (by omega) (by omega), dd 92 9 2 (by omega) (by omega) (by omega), Lib.decDigits_one (show 9 < 10 by omega)]
  rfl
set_option maxRecDepth 100000 in
set_option maxHeartbeats 2000000 in
theorem rnum_min (w : World) : Calls Tryd.prog 24 #[.int .i64 (-9223372036854775808)] w fun e w' => e = .returned (.string ⟨#[45, 57, 50, 50, 51, 51, 55, 50, 48, 51, 54, 56, 53, 52, 55, 55, 53, 56, 48, 56]⟩) ∧ Below w.heap.size w w' := by
  have hw : IntKind.i64.wrap 9223372036854775808 = -9223372036854775808 := by decide
  go_enter Tryd.func24, Tryd.ntmps24
  go_wp2_with fail
  go_ret
  exact ⟨rfl, Below.refl _ _⟩
set_option maxRecDepth 100000 in
set_option maxHeartbeats 2000000 in
theorem rnum_any (n : Int) (hn : i64 n) (w : World) : RT 24 #[.int .i64 n] w (Lib.itoa n) := by
  by_cases h0 : 0 ≤ n
  · obtain ⟨v, rfl⟩ : ∃ v : Nat, n = (v : Int) := ⟨n.toNat, by omega⟩
    rw [Lib.itoa_nonneg]
    exact rnum_nat v hn.2 w
  · by_cases hm : n = -9223372036854775808
    · rw [hm]
      refine (rnum_min w).mono ?_
      rintro e w' ⟨rfl, hb⟩
      refine ⟨?_, hb⟩
      rw [show txt (Lib.itoa (-9223372036854775808)) = _ from congrArg txt itoa_min]
      rfl
    · obtain ⟨v, rfl⟩ : ∃ v : Nat, n = -(v : Int) := ⟨(-n).toNat, by omega⟩
      have hv1 : 1 ≤ v := by omega
      have hv2 : (v : Int) ≤ 9223372036854775807 := by have := hn.1; omega
      have HI : Hid (Lib.itoa (-(v : Int)) = 45 :: Lib.decDigits v) := Lib.hid (Lib.itoa_neg v hv1)
      obtain ⟨y, hy⟩ : ∃ y, txt (Lib.decDigits v) = y := ⟨_, rfl⟩
      have HY : Hid (Lib.decDigits v = y.data.toList) := Lib.hid (by rw [← hy]; rfl)
      have HC : Hid (Calls Tryd.prog 24 #[.int .i64 (v : Int)] w fun e w' => e = .returned (.string y) ∧ Below w.heap.size w w') := Lib.hid (by have hc := rnum_nat v hv2 w; unfold RT at hc; rw [hy] at hc; exact hc)
      have HFIN : Hid (txt (Lib.itoa (-(v : Int))) = (⟨#[45]⟩ : ByteArray) ++ y) := Lib.hid (by rw [HI.out, HY.out]; apply ByteArray.ext; apply Array.toList_inj.1; simp [txt])
      have hlen : (Lib.decDigits v).length ≤ 20 := dig_len _ (by omega)
      have hz : y.size ≤ 20 := by have e := congrArg List.length HY.out; have e2 : y.data.toList.length = y.size := rfl; omega
      have z0 : ¬ 9223372036854775807 < 1 + y.size := by omega
      have a1 : -(v : Int) < 0 := by omega
      have a2 : ¬ -(v : Int) = (v : Int) := by omega
      have a3 : IntKind.i64.wrap (v : Int) = (v : Int) := IntWalk.i64_in _ (by omega)
      clear hy hlen hz hm h0 hn
      go_enter Tryd.func24, Tryd.ntmps24
      go_wp2_with fail
      refine HC.out.mono ?_
      rintro e w1 ⟨rfl, hb⟩
      go_wp2
      go_ret
      rw [HFIN.out]
      exact ⟨rfl, hb⟩
end Go.Proofs.YtekfhgldebhigaaDoor
