/-
  The walks of Fields, both, and of SameFields.
-/
import Derived.Test.YtijhdlmnoinfiaaGreatDoorHE
import Derived.Test.YtijhdlmnoinfiaaGreatDoorFS
set_option linter.all false
namespace Go.Proofs.YtijhdlmnoinfiaaGreatDoor
open Go.RowKit T T.Fo Ty
theorem flds_hit {h : Hd} {k r : Fo} {nm : ByteArray} (e : (h.kind == 2) = true) (t : (h.text.toList == nm.toList) = true) : flds nm (.cons h k r) = fls k := by
  have e1 : decide (h.kind = 2) = true := by simpa using e
  have e2 : decide (h.text.toList = nm.toList) = true := by simpa using t
  unfold flds; rw [e1, e2]; rfl
theorem flds_kind {h : Hd} {k r : Fo} {nm : ByteArray} (e : (h.kind == 2) = false) : flds nm (.cons h k r) = flds nm r := by
  have e1 : decide (h.kind = 2) = false := by simpa using e
  conv => lhs; unfold flds
  rw [e1]; rfl
theorem flds_text {h : Hd} {k r : Fo} {nm : ByteArray} (t : (h.text.toList == nm.toList) = false) : flds nm (.cons h k r) = flds nm r := by
  have e2 : decide (h.text.toList = nm.toList) = false := by simpa using t
  conv => lhs; unfold flds
  rw [e2]; simp
theorem own_low {w : World} {base base' e size n : Nat} {v : Value} {xs : List Value} (h : w.ownsRow base' e size v n xs) (hb : base ≤ base') : w.ownsRow base e size v n xs := by
  obtain ⟨q1, q2⟩ := h
  refine ⟨q1, ?_⟩
  rcases q2 with q2 | ⟨g', c, cur, hv, hbb, r⟩
  · exact .inl q2
  · exact .inr ⟨g', c, cur, hv, by omega, r⟩
/-- What stands in the loop over the declarations. -/
structure GInv (w wr : World) (nm : ByteArray) (F : Fo) (A0 : Option Addr) (cap0 : Nat) (i : Nat) (R : Fo) : Prop where
  q : flds nm F = flds nm R
  r : Rest (Lt w.heap.size) w A0 F i R
  b : Below w.heap.size w wr
  z : w.heap.size < wr.heap.size
  c4 : wr.cell? ⟨w.heap.size, 4, none⟩ = some (.slice A0 F.len cap0)
  a : R.AllH numIx
  n : R.cnt ≤ 1000000
theorem GInv.start {w : World} {F : Fo} {A0 : Option Addr} {cap0 : Nat} (nm : ByteArray) (hd : Hd) (hk : Kids (Lt w.heap.size) w A0 F) (hF : F.AllH numIx) (hm : F.cnt ≤ 1000000) : GInv w (w.alloc (.cells (nc hd A0 F.len cap0) 26)) nm F A0 cap0 0 F := by
  have h1 := heap_alloc_new w (.cells (nc hd A0 F.len cap0) 26)
  exact ⟨rfl, Rest.start hk, b1 w _, by simp, by simp only [World.cell?, h1]; rfl, hF, hm⟩
theorem GInv.next {w wr : World} {nm : ByteArray} {F k' r : Fo} {h' : Hd} {A0 : Option Addr} {cap0 i : Nat} (H : GInv w wr nm F A0 cap0 i (.cons h' k' r)) (hq : flds nm (.cons h' k' r) = flds nm r) (o : Obj) : GInv w (wr.alloc o) nm F A0 cap0 (i + 1) r := by
  obtain ⟨a1, a2, a3⟩ := H.a
  have hn := H.n
  have hz := H.z
  simp only [Fo.cnt] at hn
  exact ⟨H.q.trans hq, H.r.tail, H.b.alloc (by omega) o, by simp; omega, (World.cell?_alloc_lt _ _ _ hz).trans H.c4, a3, by omega⟩
set_option maxRecDepth 100000 in
set_option maxHeartbeats 4000000 in
theorem yfields_any (hd : Hd) (F : Fo) (A0 : Option Addr) (cap0 : Nat) (nm : ByteArray) (w : World) (hG : Glot w) (hk : Kids (Lt w.heap.size) w A0 F) (hF : F.AllH numIx) (hm : F.cnt ≤ 1000000) :
    Calls Tryz.prog 30 #[nv hd A0 F.len cap0, .string nm] w (FPost w (flds nm F)) := by
  have HS := Lib.hid (GInv.start nm hd hk hF hm (cap0 := cap0))
  have hfl0 : F.len ≤ 1000000 := Nat.le_trans F.len_le_cnt hm
  have HG := Lib.hid hG
  clear hG hk hF hm
  go_enter Tryz.func30, Tryz.ntmps30
  go_wp2
  go_loopw [11] (fun ix wr => ∃ (i : Nat) (R : Fo), ix = .int .i64 (i : Int) ∧ GInv w wr nm F A0 cap0 i R) (fun ix _ => F.len - (intOf ix).toNat)
  case atStart => exact ⟨0, F, rfl, HS.out⟩
  case round =>
    obtain ⟨i, R, rfl, hI⟩ := hrel
    have HI := Lib.hid hI
    clear HS
    cases R with
    | nil =>
      have hi2 := hI.r.stop
      subst hi2
      clear hI
      go_wp2
      go_ret2
      exact fpost_none HI.out.q ⟨rfl, HI.out.b⟩
    | cons h' k' r =>
      obtain ⟨g3, o3, A', cap', rfl, ⟨c0, c1, c2, c3, c4, c5, c6, c7, c8⟩, hkc, hk', hr', hi1, hg⟩ := (hI.r.below hI.b (Nat.le_refl _)).next
      have hj : (i : Int) < (F.len : Int) := by omega
      have hj0 : (0 : Int) ≤ (i : Int) := by omega
      obtain ⟨a1, a2, a3⟩ := hI.a
      have hcn := hI.n
      simp only [Fo.cnt] at hcn
      have HC : Hid (∀ o, Calls Tryz.prog 44 #[nv h' A' k'.len cap'] (wr.alloc o) (FPost (wr.alloc o) (fls k'))) := Lib.hid fun o =>
        yfieldsOf_any h' k' A' cap' _ (HG.out.below (HI.out.b.alloc (Nat.le_of_lt HI.out.z) o)) ((hk'.below (b1 wr o) (Nat.le_of_lt HI.out.z)).mono (by simp; have := HI.out.z; omega)) a2 (by omega)
      have hzw := hI.z
      obtain ⟨l, hl2⟩ : ∃ l, k'.len = l := ⟨_, rfl⟩
      rw [hl2] at HC c4
      clear hr' hg hk' hI hkc a1 a2 a3 hcn hl2
      cases h2 : (h'.kind == 2) with
      | false =>
        clear HC
        go_wp2_with fail
        go_roundw
        case rel => exact ⟨i + 1, r, by go_num, HI.out.next (flds_kind h2) _⟩
        case measure => simp [intOf]; omega
      | true =>
        cases ht : (h'.text.toList == nm.toList) with
        | false =>
          clear HC
          have HT := Lib.hid ht
          go_wp2_with fail
          go_roundw
          case rel => exact ⟨i + 1, r, by go_num, HI.out.next (flds_text HT.out) _⟩
          case measure => simp [intOf]; omega
        | true =>
          have HQ : Hid (flds nm F = fls k') := Lib.hid (HI.out.q.trans (flds_hit h2 ht))
          cases ho : fls k' with
          | none =>
            have HC2 : Hid (∀ o, Calls Tryz.prog 44 #[nv h' A' l cap'] (wr.alloc o) (FNo (wr.alloc o))) := Lib.hid fun o => (HC.out o).mono fun e w' h => h.1 ho
            have HO := Lib.hid ho
            clear HC ho
            go_wp2_with fail
            refine (HC2.out _).mono ?_
            rintro e V2 ⟨rfl, hb⟩
            have HB := Lib.hid ((HI.out.b.alloc (Nat.le_of_lt HI.out.z) _).trans (hb.mono (by simp; omega)))
            clear hb c0 c1 c2 c3 c4 c5 c6 c7 c8
            go_wp2
            go_ret2
            exact fpost_none (HQ.out.trans HO.out) ⟨rfl, HB.out⟩
          | some x =>
            have HC2 : Hid (∀ o, Calls Tryz.prog 44 #[nv h' A' l cap'] (wr.alloc o) (FYes (wr.alloc o) x)) := Lib.hid fun o => (HC.out o).mono fun e w' h => h.2 x ho
            have HO := Lib.hid ho
            clear HC ho
            go_wp2_with fail
            refine (HC2.out _).mono ?_
            rintro e V2 ⟨B, c, rfl, hown, hb⟩
            have HB := Lib.hid ((HI.out.b.alloc (Nat.le_of_lt HI.out.z) _).trans (hb.mono (by simp; omega)))
            have HW := Lib.hid (own_low hown (base := w.heap.size) (by simp; omega))
            clear hb hown c0 c1 c2 c3 c4 c5 c6 c7 c8
            go_wp2
            go_ret2
            exact fpost_some (HQ.out.trans HO.out) ⟨B, c, rfl, HW.out, HB.out⟩
set_option maxRecDepth 100000 in
set_option maxHeartbeats 8000000 in
theorem rfields_any (hd : Hd) (F : Fo) (A0 : Option Addr) (cap0 : Nat) (nm : ByteArray) (w : World) (hk : Kids (Lt w.heap.size) w A0 F) (hF : F.AllH numIx) (hm : F.cnt ≤ 1000000) :
    Calls Tryz.prog 31 #[nv hd A0 F.len cap0, .string nm] w (FPost w (flds nm F)) := by
  obtain ⟨i0, hi, hz0, hz1, hz2⟩ := info_parts info56
  have HS := Lib.hid (GInv.start nm hd hk hF hm (cap0 := cap0))
  have hfl0 : F.len ≤ 1000000 := Nat.le_trans F.len_le_cnt hm
  clear hk hF hm
  go_enter Tryz.func31, Tryz.ntmps31
  go_wp2
  go_loopw [6] (fun ix wr => ∃ (i : Nat) (R : Fo), ix = .int .i64 (i : Int) ∧ GInv w wr nm F A0 cap0 i R) (fun ix _ => F.len - (intOf ix).toNat)
  case atStart => exact ⟨0, F, rfl, HS.out⟩
  case round =>
    rename World => w0
    obtain ⟨i, R, rfl, hI⟩ := hrel
    have HI := Lib.hid hI
    have z4 := hI.c4
    have zz := hI.z
    clear HS
    cases R with
    | nil =>
      have hi2 := hI.r.stop
      subst hi2
      clear hI
      go_wp2
      go_ret2
      exact fpost_none HI.out.q ⟨rfl, HI.out.b⟩
    | cons h' k' r =>
      obtain ⟨g3, o3, A', cap', rfl, ⟨c0, c1, c2, c3, c4, c5, c6, c7, c8⟩, hkc, hk', hr', hi1, hg⟩ := (hI.r.below hI.b (Nat.le_refl _)).next
      have hj : (i : Int) < (F.len : Int) := by omega
      have hj0 : (0 : Int) ≤ (i : Int) := by omega
      obtain ⟨a1, a2, a3⟩ := hI.a
      have hcn := hI.n
      simp only [Fo.cnt] at hcn
      have hfl : k'.len ≤ 1000000 := by have := k'.len_le_cnt; omega
      have HS2 : Hid (FInv w0 (w0.alloc (.cells (nc h' A' k'.len cap') 26)) k' A' cap' [] none 0 0 k') := Lib.hid (FInv.start h' (hk'.mono (Nat.le_of_lt hI.z)) a2 (by omega))
      clear hr' hg hk' hI hkc a1 a2 a3 hcn
      cases h2 : (h'.kind == 2) with
      | false =>
        have h2' : (h'.kind != 2) = true := by simpa using h2
        have H2 := Lib.hid h2
        obtain ⟨l, hl2⟩ : ∃ l, k'.len = l := ⟨_, rfl⟩
        rw [hl2] at c4
        clear HS2 h2 hl2 hfl
        go_wp2_with fail
        go_roundw
        case rel => exact ⟨i + 1, r, by go_num, HI.out.next (flds_kind H2.out) _⟩
        case measure => simp [intOf]; omega
      | true =>
        have h2' : (h'.kind != 2) = false := by simpa using h2
        cases ht : (h'.text.toList == nm.toList) with
        | false =>
          have ht' : (h'.text.toList != nm.toList) = true := by simpa using ht
          have HT := Lib.hid ht
          obtain ⟨l, hl2⟩ : ∃ l, k'.len = l := ⟨_, rfl⟩
          rw [hl2] at c4
          clear HS2 h2 hl2 hfl
          go_wp2_with fail
          go_roundw
          case rel => exact ⟨i + 1, r, by go_num, HI.out.next (flds_text HT.out) _⟩
          case measure => simp [intOf]; omega
        | true =>
          have ht' : (h'.text.toList != nm.toList) = false := by simpa using ht
          have HQ : Hid (flds nm F = fls k') := Lib.hid (HI.out.q.trans (flds_hit h2 ht))
          clear h2
          go_wp2_with fail
          go_loopw [8, 9] (fun lx ix W => ∃ (acc : List Fl) (A : Option Addr) (cap j : Nat) (R : Fo), lx = .slice A acc.length cap ∧ ix = .int .i64 (j : Int) ∧ FInv w0 W k' A' cap' acc A cap j R) (fun _ ix _ => k'.len - (intOf ix).toNat)
          case atStart => exact ⟨[], none, 0, 0, k', rfl, rfl, HS2.out⟩
          case round =>
            clear c0 c1 c2 c3 c4 c5 c6 c7 c8 HS2
            obtain ⟨acc, A, cap, j, R, rfl, rfl, hJ⟩ := hrel
            have HJ := Lib.hid hJ
            have y4 := hJ.c4
            have yz := hJ.z
            have HBW := Lib.hid (HI.out.b.trans (hJ.b.mono (Nat.le_of_lt HI.out.z)))
            cases R with
            | nil =>
              have hi2 := hJ.r.stop
              subst hi2
              clear hJ
              go_wp2
              go_ret2
              exact fpost_some (HQ.out.trans (fls_done HJ.out.q)) ⟨A, cap, rfl, own_low HJ.out.own (by have := HI.out.z; omega), HBW.out⟩
            | cons x' y' r' =>
              obtain ⟨g5, o5, A5, cap5, rfl, ⟨c0, c1, c2, c3, c4, c5, c6, c7, c8⟩, hkc, hk', hr', hi1, hg⟩ := (hJ.r.below hJ.b (Nat.le_refl _)).next
              have hj : (j : Int) < (k'.len : Int) := by omega
              have hj0 : (0 : Int) ≤ (j : Int) := by omega
              have hac : acc.length ≤ 1000000 := by have := hJ.l; omega
              obtain ⟨a1, a2, a3⟩ := hJ.a
              have HK' := Lib.hid hk'
              have hzw := hJ.z
              clear hr' hg hk' hJ
              cases h3 : (x'.kind != 3) with
              | true =>
                have HL : w.heap.size ≤ wr.heap.size := by omega
                clear hkc a1 a2 a3
                go_wp2
                go_ret2
                exact fpost_none (HQ.out.trans (fls_none HJ.out.q (fl1_kind h3))) ⟨rfl, (HBW.out.alloc HL _)⟩
              | false =>
                by_cases hl : y'.len = 1
                · obtain ⟨h2, k2, rfl⟩ := len1 hl
                  obtain ⟨g4, o4, A2, cap2, rfl, hd9, hkc2, hk2, _, _, hg4⟩ := (Rest.start HK'.out).next
                  rw [show o4 + 0 * 9 = o4 by omega] at hd9
                  obtain ⟨d0, d1, d2, d3, d4, d5, d6, d7, d8⟩ := hd9
                  obtain ⟨b1', b2, _⟩ := a2
                  have HC : Hid (∀ V, Calls Tryz.prog 15 #[nv h2 A2 k2.len cap2] V (Res V (ofK h2 k2.len) (ofN h2 k2.len) (ofB h2 k2.len))) := Lib.hid fun V => rOf_any h2 k2 A2 cap2 V b1'
                  have hg4' : g4 < wr.heap.size := by have : g4 < w0.heap.size := hg4; omega
                  have hg4n : ¬ g4 = wr.heap.size := by omega
                  obtain ⟨K, hK⟩ : ∃ K, ofK h2 k2.len = K := ⟨_, rfl⟩
                  obtain ⟨S, hS⟩ : ∃ S, ofN h2 k2.len = S := ⟨_, rfl⟩
                  obtain ⟨l, hl2⟩ : ∃ l, k2.len = l := ⟨_, rfl⟩
                  have e1 : fl1 x' (.cons h2 k2 .nil) = if ofB h2 k2.len then some ⟨x'.text, K, S⟩ else none := by
                    rw [fl1_one h3, hK, hS]
                  cases hb : ofB h2 k2.len with
                  | false =>
                    rw [hK, hS, hb, hl2] at HC
                    rw [hb] at e1
                    have HE := Lib.hid e1
                    rw [hl2] at d4
                    have hl1 : (Fo.cons h2 k2 .nil).len = 1 := rfl
                    rw [hl1] at c4
                    clear hK hS hb hl2 e1 hl hkc hkc2 hk2 a1 a3 b1' b2 hl1
                    go_wp2_with fail
                    refine (HC.out _).mono ?_
                    rintro e V2 ⟨rfl, hb⟩
                    have HB := Lib.hid ((HBW.out.alloc (by omega) _).trans (hb.mono (by simp; omega)))
                    have hzv : w.heap.size ≤ V2.heap.size := HB.out.size
                    clear hb c0 c1 c2 c3 c4 c5 c6 c7 c8 d0 d1 d2 d3 d4 d5 d6 d7 d8
                    go_wp2
                    go_ret2
                    exact fpost_none (HQ.out.trans (fls_none HJ.out.q HE.out)) ⟨rfl, HB.out.alloc hzv _⟩
                  | true =>
                    rw [hK, hS, hb, hl2] at HC
                    rw [hb] at e1
                    have HE := Lib.hid e1
                    rw [hl2] at d4
                    have hl1 : (Fo.cons h2 k2 .nil).len = 1 := rfl
                    rw [hl1] at c4
                    clear hK hS hb hl2 e1 hl hkc hkc2 hk2 a1 a3 b1' b2 hl1
                    go_wp2_with fail
                    refine (HC.out _).mono ?_
                    rintro e V2 ⟨rfl, hb⟩
                    have HBV := Lib.hid hb
                    have t1 : V2.cell? ⟨wr.heap.size, 1, none⟩ = some (.string x'.text) := by
                      refine (hb.cell (p := ⟨wr.heap.size, 1, none⟩) (by simp)).trans ?_
                      have := heap_alloc_new wr (.cells (nc x' (some ⟨g4, o4, none⟩) 1 cap5) 26)
                      simp only [World.cell?, this]; rfl
                    have hzv : wr.heap.size < V2.heap.size := by have := hb.size; simp at this; omega
                    have HOW := Lib.hid (((ownf_kept HJ.out.own ((b1 wr _).trans (hb.mono (by simp)))).alloc (.cells #[.int .i64 K, .string S] 24)).alloc (.cells #[.string x'.text, .int .i64 K, .string S] 56))
                    have hwz : w0.heap.size + 1 ≤ V2.heap.size := by omega
                    clear hb c0 c1 c2 c3 c4 c5 c6 c7 c8 d0 d1 d2 d3 d4 d5 d6 d7 d8 hg4' hg4n y4 z4
                    go_wp2_with (at_builtin; refine wpList_append_lies _ rfl _ _ _ rfl (w0.heap.size + 1) 56 i0 _ 3 40 Tryz.underlying41 hi hz0 hz1 hz2 rfl (by omega) (.slice A acc.length cap) acc.length (fcells acc) rfl HOW.out ⟨V2.heap.size + 1, 0, none⟩ 1 1 (cellF ⟨x'.text, K, S⟩) rfl rfl (World.news_of_block (cs := #[.string x'.text, .int .i64 K, .string S]) (t := 56) (fr := (0, 0)) (heap_alloc2_new V2 _ _)) (by simp [Value.oneCell', cellF]) (by omega) (by unfold maxLen; omega) (by omega) (by simp; omega) (V2.heap.size + 2) (by simp) ?_; intro g1 cap1 w4 hown1 hgrow1 hat1 hlt1)
                    have R := Lib.hid (FInv.push HJ.out HE.out HBV.out hown1 hgrow1)
                    clear hown1 hgrow1 hat1
                    go_roundw
                    case rel => exact ⟨acc ++ [⟨x'.text, K, S⟩], some ⟨g1, 0, none⟩, cap1, j + 1, r', by rw [List.length_append]; rfl, by go_num, R.out⟩
                    case measure => simp [intOf]; omega
                · have hx : fl1 x' y' = none := fl1_len hl
                  have HX := Lib.hid hx
                  obtain ⟨l, hl2⟩ : ∃ l, y'.len = l := ⟨_, rfl⟩
                  rw [hl2] at c4 hl
                  have hne : ((l : Int) != 1) = true := by simp; omega
                  have HL : w.heap.size ≤ wr.heap.size := by omega
                  clear hkc a1 a2 a3 hx hl2 hl
                  go_wp2
                  go_ret2
                  exact fpost_none (HQ.out.trans (fls_none HJ.out.q HX.out)) ⟨rfl, (HBW.out.alloc HL _)⟩
end Go.Proofs.YtijhdlmnoinfiaaGreatDoor
