/-
  The walks of the program's fieldsOf and Fields.
-/
import Derived.Test.YtijhdlmnoinfiaaGreatDoorHD
set_option linter.all false
namespace Go.Proofs.YtijhdlmnoinfiaaGreatDoor
open Go.RowKit T T.Fo Ty
theorem fl1_one {h h2 : Hd} {k2 : Fo} (e : (h.kind != 3) = false) : fl1 h (.cons h2 k2 .nil) = if ofB h2 k2.len then some ⟨h.text, ofK h2 k2.len, ofN h2 k2.len⟩ else none := by
  have : decide (h.kind = 3) = true := by simpa using e
  show (if decide (h.kind = 3) && ofB h2 k2.len then _ else none) = _
  rw [this]; rfl
set_option maxRecDepth 100000 in
set_option maxHeartbeats 4000000 in
theorem yfieldsOf_any (hd : Hd) (F : Fo) (A0 : Option Addr) (cap0 : Nat) (w : World) (hG : Glot w) (hk : Kids (Lt w.heap.size) w A0 F) (hF : F.AllH numIx) (hm : F.cnt ≤ 1000000) :
    Calls Tryz.prog 44 #[nv hd A0 F.len cap0] w (FPost w (fls F)) := by
  obtain ⟨i0, hi, hz0, hz1, hz2⟩ := info_parts info56
  have HS := Lib.hid (FInv.start hd hk hF hm (cap0 := cap0))
  have HG := Lib.hid hG
  have hfl : F.len ≤ 1000000 := Nat.le_trans F.len_le_cnt hm
  clear hG hk hF hm
  go_enter Tryz.func44, Tryz.ntmps44
  go_wp2
  go_loopw [4, 12] (fun lx ix wr => ∃ (acc : List Fl) (A : Option Addr) (cap i : Nat) (R : Fo), lx = .slice A acc.length cap ∧ ix = .int .i64 (i : Int) ∧ FInv w wr F A0 cap0 acc A cap i R) (fun _ ix _ => F.len - (intOf ix).toNat)
  case atStart => exact ⟨[], none, 0, 0, F, rfl, rfl, HS.out⟩
  case round =>
    obtain ⟨acc, A, cap, i, R, rfl, rfl, hI⟩ := hrel
    have HI := Lib.hid hI
    clear HS
    cases R with
    | nil =>
      have hi2 := hI.r.stop
      subst hi2
      clear hI
      go_wp2
      go_ret2
      exact fpost_some (fls_done HI.out.q) ⟨A, cap, rfl, ownf_base HI.out.own, HI.out.b⟩
    | cons h' k' r =>
      obtain ⟨g3, o3, A', cap', rfl, ⟨c0, c1, c2, c3, c4, c5, c6, c7, c8⟩, hkc, hk', hr', hi1, hg⟩ := (hI.r.below hI.b (Nat.le_refl _)).next
      have hj : (i : Int) < (F.len : Int) := by omega
      have hj0 : (0 : Int) ≤ (i : Int) := by omega
      have hac : acc.length ≤ 1000000 := by have := hI.l; omega
      obtain ⟨a1, a2, a3⟩ := hI.a
      have hcn := hI.n
      simp only [Fo.cnt] at hcn
      have HK' := Lib.hid hk'
      have hzw := hI.z
      clear hr' hg hk' hI
      cases h3 : (h'.kind != 3) with
      | true =>
        clear hkc a1 a2 a3 hcn
        go_wp2
        go_ret2
        exact fpost_none (fls_none HI.out.q (fl1_kind h3)) ⟨rfl, (HI.out.b.alloc (Nat.le_of_lt HI.out.z) _)⟩
      | false =>
        by_cases hl : k'.len = 1
        · obtain ⟨h2, k2, rfl⟩ := len1 hl
          obtain ⟨g4, o4, A2, cap2, rfl, hd9, hkc2, hk2, _, _, hg4⟩ := (Rest.start HK'.out).next
          rw [show o4 + 0 * 9 = o4 by omega] at hd9
          obtain ⟨d0, d1, d2, d3, d4, d5, d6, d7, d8⟩ := hd9
          obtain ⟨b1', b2, _⟩ := a2
          simp only [Fo.cnt] at hcn
          have HC : Hid (∀ o, Calls Tryz.prog 13 #[nv h2 A2 k2.len cap2] (wr.alloc o) (Res (wr.alloc o) (ofK h2 k2.len) (ofN h2 k2.len) (ofB h2 k2.len))) := Lib.hid fun o =>
            yOf_any h2 k2 A2 cap2 _ (HG.out.below (HI.out.b.alloc (Nat.le_of_lt HI.out.z) o)) ((hk2.below (b1 wr o) (Nat.le_of_lt HI.out.z)).mono (by simp; omega)) hkc2 b1' b2 (by omega)
          have hg4' : g4 < wr.heap.size := by have : g4 < w.heap.size := hg4; omega
          have hg4n : ¬ g4 = wr.heap.size := by omega
          obtain ⟨K, hK⟩ : ∃ K, ofK h2 k2.len = K := ⟨_, rfl⟩
          obtain ⟨S, hS⟩ : ∃ S, ofN h2 k2.len = S := ⟨_, rfl⟩
          obtain ⟨l, hl2⟩ : ∃ l, k2.len = l := ⟨_, rfl⟩
          have e1 : fl1 h' (.cons h2 k2 .nil) = if ofB h2 k2.len then some ⟨h'.text, K, S⟩ else none := by
            rw [fl1_one h3, hK, hS]
          cases hb : ofB h2 k2.len with
          | false =>
            rw [hK, hS, hb, hl2] at HC
            rw [hb] at e1
            have HE := Lib.hid e1
            rw [hl2] at d4
            have hl1 : (Fo.cons h2 k2 .nil).len = 1 := rfl
            rw [hl1] at c4
            clear hK hS hb hl2 e1 hl hkc hkc2 hk2 a1 a3 b1' b2 hcn hl1
            go_wp2_with fail
            refine (HC.out _).mono ?_
            rintro e V2 ⟨rfl, hb⟩
            have HB := Lib.hid ((HI.out.b.alloc (Nat.le_of_lt HI.out.z) _).trans (hb.mono (by simp; omega)))
            have hzv : w.heap.size ≤ V2.heap.size := HB.out.size
            clear hb c0 c1 c2 c3 c4 c5 c6 c7 c8 d0 d1 d2 d3 d4 d5 d6 d7 d8
            go_wp2
            go_ret2
            exact fpost_none (fls_none HI.out.q HE.out) ⟨rfl, HB.out.alloc hzv _⟩
          | true =>
            rw [hK, hS, hb, hl2] at HC
            rw [hb] at e1
            have HE := Lib.hid e1
            rw [hl2] at d4
            have hl1 : (Fo.cons h2 k2 .nil).len = 1 := rfl
            rw [hl1] at c4
            clear hK hS hb hl2 e1 hl hkc hkc2 hk2 a1 a3 b1' b2 hcn hl1
            go_wp2_with fail
            refine (HC.out _).mono ?_
            rintro e V2 ⟨rfl, hb⟩
            have HBV := Lib.hid hb
            have t1 : V2.cell? ⟨wr.heap.size, 1, none⟩ = some (.string h'.text) := by
              refine (hb.cell (p := ⟨wr.heap.size, 1, none⟩) (by simp)).trans ?_
              have := heap_alloc_new wr (.cells (nc h' (some ⟨g4, o4, none⟩) 1 cap') 26)
              simp only [World.cell?, this]; rfl
            have hzv : wr.heap.size < V2.heap.size := by have := hb.size; simp at this; omega
            have HOW := Lib.hid (((ownf_kept HI.out.own ((b1 wr _).trans (hb.mono (by simp)))).alloc (.cells #[.int .i64 K, .string S] 24)).alloc (.cells #[.string h'.text, .int .i64 K, .string S] 56))
            have hwz : w.heap.size + 1 ≤ V2.heap.size := by omega
            clear hb c0 c1 c2 c3 c4 c5 c6 c7 c8 d0 d1 d2 d3 d4 d5 d6 d7 d8 hg4' hg4n
            go_wp2_with (at_builtin; refine wpList_append_lies _ rfl _ _ _ rfl (w.heap.size + 1) 56 i0 _ 3 40 Tryz.underlying41 hi hz0 hz1 hz2 rfl (by omega) (.slice A acc.length cap) acc.length (fcells acc) rfl HOW.out ⟨V2.heap.size + 1, 0, none⟩ 1 1 (cellF ⟨h'.text, K, S⟩) rfl rfl (World.news_of_block (cs := #[.string h'.text, .int .i64 K, .string S]) (t := 56) (fr := (0, 0)) (heap_alloc2_new V2 _ _)) (by simp [Value.oneCell', cellF]) (by omega) (by unfold maxLen; omega) (by omega) (by simp; omega) (V2.heap.size + 2) (by simp) ?_; intro g1 cap1 w4 hown1 hgrow1 hat1 hlt1)
            have R := Lib.hid (FInv.push HI.out HE.out HBV.out hown1 hgrow1)
            clear hown1 hgrow1 hat1
            go_roundw
            case rel => exact ⟨acc ++ [⟨h'.text, K, S⟩], some ⟨g1, 0, none⟩, cap1, i + 1, r, by rw [List.length_append]; rfl, by go_num, R.out⟩
            case measure => simp [intOf]; omega
        · have hx : fl1 h' k' = none := fl1_len hl
          have HX := Lib.hid hx
          obtain ⟨l, hl2⟩ : ∃ l, k'.len = l := ⟨_, rfl⟩
          rw [hl2] at c4 hl
          have hne : ((l : Int) != 1) = true := by simp; omega
          clear hkc a1 a2 a3 hcn hx hl2 hl
          go_wp2
          go_ret2
          exact fpost_none (fls_none HI.out.q HX.out) ⟨rfl, (HI.out.b.alloc (Nat.le_of_lt HI.out.z) _)⟩
end Go.Proofs.YtijhdlmnoinfiaaGreatDoor
