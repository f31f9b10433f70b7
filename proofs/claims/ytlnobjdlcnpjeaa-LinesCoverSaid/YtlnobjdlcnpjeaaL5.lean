/-
  The walk of the law LinesCover.
-/
import Derived.Test.YtlnobjdlcnpjeaaL4
namespace Go.Proofs.Ytlnobjdlcnpjeaa
open Go.RowKit M

/-- Where line j (counted from 0) starts; for j = the number of lines: the text's end. -/
def bnd (s : ByteArray) (j : Nat) : Nat := if j < (sts s).length then (at0 (sts s) j).toNat else s.size

theorem bnd_facts (s : ByteArray) (hs : s.size ≤ 100000) (j : Nat) (hj : j < (sts s).length) :
    bnd s j ≤ bnd s (j + 1) ∧ bnd s (j + 1) ≤ s.size ∧ (j + 1 < (sts s).length → bnd s j < bnd s (j + 1)) ∧
    (∀ i, bnd s j ≤ i → i < bnd s (j + 1) → (byteAt s i = 10 ↔ j + 1 < (sts s).length ∧ i + 1 = bnd s (j + 1))) ∧
    (at0 (sts s) j = (bnd s j : Int)) ∧ (j + 1 < (sts s).length → at0 (sts s) (j + 1) = (bnd s (j + 1) : Int)) ∧ (j + 1 = (sts s).length → s.size = bnd s (j + 1)) := by
  have ok : Ok (sts s) s.size := st_ok s s.size (by omega)
  have b0 := ok.bd hj
  have e0 : bnd s j = startOf s j := by unfold bnd startOf; rw [if_pos hj]; rfl
  have e1 : bnd s (j + 1) = endOf s j := by unfold bnd endOf; rfl
  have hb := fun i h1 h2 => (line_bytes s hs j i hj h1 h2).2
  refine ⟨?_, ?_, ?_, ?_, ?_, ?_, ?_⟩
  · unfold bnd
    rw [if_pos hj]
    split
    · rename_i g; have := ok.lt (i := j) (j := j + 1) (by omega) g; omega
    · omega
  · unfold bnd
    split
    · rename_i g; have := ok.bd g; omega
    · omega
  · intro g
    unfold bnd
    rw [if_pos hj, if_pos g]
    have := ok.lt (i := j) (j := j + 1) (by omega) g
    have := ok.bd g
    omega
  · rw [e0, e1]; exact hb
  · unfold bnd; rw [if_pos hj]; omega
  · intro g; unfold bnd; rw [if_pos g]; have := ok.bd g; omega
  · intro g; unfold bnd; rw [if_neg (by omega)]

theorem bnd_zero (s : ByteArray) : bnd s 0 = 0 := by
  have := st_len s s.size
  have e : at0 (sts s) 0 = 0 := by
    have h : ∀ k, at0 (st s k) 0 = 0 := by
      intro k
      induction k with
      | zero => rfl
      | succ k ih =>
        rw [st]
        split
        · rw [at0_left (by have := st_len s k; omega)]; exact ih
        · exact ih
    exact h s.size
  unfold bnd
  rw [if_pos (by unfold sts; omega), e]
  rfl

theorem span_bnd (s : ByteArray) (hs : s.size ≤ 100000) (ao : Option Addr) (n cap j : Nat) (w : World) (hn : n = (sts s).length) (hj : j < n) (h : Row w ao n (sts s)) :
    Calls Try.prog 23 #[.agg #[.slice ao n cap, .int .i64 s.size], .int .i64 ((j : Int) + 1)] w fun e w' => e = .returned (.tuple #[.int .i64 (bnd s j : Int), .int .i64 (bnd s (j + 1) : Int), .int .i64 0]) ∧ Below w.heap.size w w' := by
  subst hn
  have ok : Ok (sts s) s.size := st_ok s s.size (by omega)
  obtain ⟨_, _, _, _, f5, f6, f7⟩ := bnd_facts s hs j hj
  refine (span_any ao _ cap (sts s) s.size ((j : Int) + 1) true w h (by simp [Tells]; exact ok)).mono fun e w' ⟨he, hw⟩ => ⟨?_, hw⟩
  have c1 : (1 : Int) ≤ (j : Int) + 1 := by omega
  have c3 : (j : Int) + 1 ≤ ((sts s).length : Int) := by omega
  have e1 : ((j : Int) + 1).toNat = j + 1 := by omega
  have eE : sErr true (sts s) ((j : Int) + 1) = 0 := by rw [sErr, if_pos rfl, if_pos ⟨c1, c3⟩]
  have eF : sFrom true (sts s) ((j : Int) + 1) = (bnd s j : Int) := by rw [sFrom, if_pos ⟨rfl, c1, c3⟩, e1, Nat.add_sub_cancel, f5]
  have eT : sTo true (sts s) s.size ((j : Int) + 1) = (bnd s (j + 1) : Int) := by
    rw [sTo, if_pos ⟨rfl, c1, c3⟩, e1]
    by_cases g : j + 1 = (sts s).length
    · rw [if_pos (by omega), f7 g]
    · rw [if_neg (by omega), f6 (by omega)]
  rw [he, eE, eF, eT]

/-- How many line feeds have been met at i in a line that ends at T with its only one. -/
def feed (i T : Nat) : Int := if i = T then 1 else 0
theorem feed_lt {i T : Nat} (h : i < T) : feed i T = 0 := if_neg (by omega)
theorem feed_eq (T : Nat) : feed T T = 1 := if_pos rfl

set_option maxRecDepth 100000 in
set_option maxHeartbeats 400000 in
theorem lawCover_long (s : ByteArray) (w : World) (hs : 1000 < s.size) (hm : (s.size : Int) ≤ 9223372036854775807) :
    Calls Try.prog 9 #[.string s] w fun e w' => e = .returned (.bool true) ∧ Below w.heap.size w w' := by
  have hd : decide ((1000 : Int) < (s.size : Int)) = true := by simp; omega
  go_enter Try.func9, Try.ntmps9
  go_wp2_with (go_at_call 10; refine (awake_any _).mono ?_; rintro e w' ⟨rfl, hb1⟩; obtain ⟨hc, hf⟩ := bcell hb1)
  go_ret
  exact ⟨rfl, hb1⟩

set_option maxRecDepth 100000 in
set_option maxHeartbeats 3200000 in
theorem lawCover_short (s : ByteArray) (w : World) (hs : s.size ≤ 1000) :
    Calls Try.prog 9 #[.string s] w fun e w' => e = .returned (.bool true) ∧ Below w.heap.size w w' := by
  have hd : decide ((1000 : Int) < (s.size : Int)) = false := by simp; omega
  have hsz : s.size ≤ 100000 := by omega
  obtain ⟨n, hn⟩ : ∃ n, n = (sts s).length := ⟨_, rfl⟩
  have hl : 1 ≤ n ∧ n ≤ s.size + 1 := by rw [hn]; exact st_len s s.size
  obtain ⟨hl1, hl2⟩ := hl
  have HT : Hid (Tells true (sts s) s.size) := Lib.hid (by simp [Tells]; exact st_ok s s.size (by omega))
  have OF1 : Hid (∀ w, Calls Try.prog 11 #[.string s] w fun e w' => ∃ ao cap, e = .returned (.agg #[.slice ao n cap, .int .i64 s.size]) ∧ Row w' ao n (sts s) ∧ Below w.heap.size w w') :=
    Lib.hid (fun w => (of_any s w hsz).mono fun e w' h => by rw [hn]; exact h)
  have CT : Hid (∀ (ao : Option Addr) (cap : Nat) (w : World), Row w ao n (sts s) → Calls Try.prog 15 #[.agg #[.slice ao n cap, .int .i64 s.size]] w fun e w' => e = .returned (.int .i64 (n : Int)) ∧ Below w.heap.size w w') :=
    Lib.hid (fun ao cap w h => (count_any ao n cap (sts s) s.size true w h HT.out).mono fun e w' ⟨he, hw⟩ => ⟨by rw [he, hn]; rfl, hw⟩)
  have SP : Hid (∀ (ao : Option Addr) (cap j : Nat) (w : World), j < n → Row w ao n (sts s) → Calls Try.prog 23 #[.agg #[.slice ao n cap, .int .i64 s.size], .int .i64 ((j : Int) + 1)] w fun e w' => e = .returned (.tuple #[.int .i64 (bnd s j : Int), .int .i64 (bnd s (j + 1) : Int), .int .i64 0]) ∧ Below w.heap.size w w') :=
    Lib.hid (fun ao cap j w hj h => span_bnd s hsz ao n cap j w hn hj h)
  have BF : Hid (∀ j, j < n → bnd s j ≤ bnd s (j + 1) ∧ bnd s (j + 1) ≤ s.size ∧ (j + 1 < n → bnd s j < bnd s (j + 1)) ∧ (∀ i, bnd s j ≤ i → i < bnd s (j + 1) → (byteAt s i = 10 ↔ j + 1 < n ∧ i + 1 = bnd s (j + 1))) ∧ (j + 1 = n → s.size = bnd s (j + 1))) :=
    Lib.hid (fun j hj => by
      obtain ⟨f1, f2, f3, f4, _, _, f7⟩ := bnd_facts s hsz j (by omega)
      rw [← hn] at f3 f4 f7
      exact ⟨f1, f2, f3, f4, f7⟩)
  have BN : Hid (bnd s n = s.size) := Lib.hid (by unfold bnd; rw [if_neg (by omega)])
  have BZ : Hid (bnd s 0 = 0) := Lib.hid (bnd_zero s)
  have d1 : decide ((n : Int) < 1) = false := by simp; omega
  have d2 : decide ((s.size : Int) + 1 < (n : Int)) = false := by simp; omega
  clear hn
  go_enter Try.func9, Try.ntmps9
  go_wp2_with fail
  refine (awake_any _).mono ?_
  rintro e w1 ⟨rfl, hb1⟩
  go_wp2_with fail
  refine (OF1.out _).mono ?_
  rintro e w2 ⟨ao, cap, rfl, hr, hb2⟩
  have HB : Hid (Below w.heap.size w w2) := Lib.hid (hb1.trans (hb2.mono hb1.size))
  have R2 := Lib.hid hr
  clear hb1 hb2 hr
  go_wp2_with fail
  refine (CT.out _ _ _ (R2.out.alloc _)).mono ?_
  rintro e w3 ⟨rfl, hb3⟩
  obtain ⟨s0, s1, l0, r, b⟩ := keep_held (w := w2) (B := w2.heap.size) (ao := ao) (n := n) (cap := cap) (zs := sts s) (size := s.size) (by simp) (by simp) (by simp) (R2.out.alloc _) ((Below.refl _ _).alloc (Nat.le_refl _) _) hb3
  have R3 := Lib.hid r
  have B3 := Lib.hid b
  clear r b hb3
  go_wp2_with fail
  go_loopw [5, 6] (fun at' k wr => ∃ j : Nat, j ≤ n ∧ k = .int .i64 ((j : Int) + 1) ∧ at' = .int .i64 (bnd s j : Int) ∧ wr.cell? ⟨w2.heap.size, 0, none⟩ = some (.slice ao n cap) ∧ wr.cell? ⟨w2.heap.size, 1, none⟩ = some (.int .i64 s.size) ∧ w2.heap.size < wr.heap.size ∧ Row wr ao n (sts s) ∧ Below w2.heap.size w2 wr)
    (fun _ k _ => n + 1 - (intOf k).toNat)
  case atStart => exact ⟨0, by omega, rfl, by rw [BZ.out]; rfl, s0, s1, l0, R3.out, B3.out⟩
  case round =>
    obtain ⟨j, hj, rfl, rfl, t0, t1, m0, r, b⟩ := hrel
    have RR := Lib.hid r
    have BB := Lib.hid b
    clear r b s0 s1 l0 R3 B3
    by_cases hjn : j < n
    · have dk : decide ((j : Int) + 1 ≤ (n : Int)) = true := by simp; omega
      obtain ⟨f1, f2, f3, f4, f7⟩ := BF.out j hjn
      obtain ⟨F, hF⟩ : ∃ F, F = bnd s j := ⟨_, rfl⟩
      obtain ⟨T, hT⟩ : ∃ T, T = bnd s (j + 1) := ⟨_, rfl⟩
      have SPJ := Lib.hid (SP.out ao cap j wr hjn RR.out)
      rw [← hF, ← hT] at SPJ
      rw [← hF, ← hT] at f1 f3 f4
      rw [← hT] at f2 f7
      rw [← hF]
      have HT' := Lib.hid hT
      have F4 := Lib.hid f4
      have F3 := Lib.hid f3
      clear hF hT f3 f4
      have e1 : ((F : Int) != (F : Int)) = false := by simp
      have e2 : decide (T < F) = false := by simp; omega
      have e3 : decide (s.size < T) = false := by simp; omega
      go_wp2_with fail
      refine SPJ.out.mono ?_
      rintro e w4 ⟨rfl, hb4⟩
      obtain ⟨s0, s1, l0, r, b⟩ := keep_held t0 t1 m0 RR.out BB.out hb4
      have R4 := Lib.hid r
      have B4 := Lib.hid b
      clear r b hb4 t0 t1 m0 RR BB
      go_wp2_with fail
      by_cases hin : j + 1 < n
      · have k1 : decide ((j : Int) + 1 < (n : Int)) = true := by simp; omega
        have k2 : ((j : Int) + 1 == (n : Int)) = false := by simp; omega
        have hFT := F3.out hin
        have HF0 := Lib.hid (feed_lt hFT)
        go_loop [10, 11] (fun c i => ∃ i' : Nat, F ≤ i' ∧ i' ≤ T ∧ i = .int .i64 i' ∧ c = .int .i64 (feed i' T)) (fun _ i => T - (intOf i).toNat)
        case atStart => exact ⟨F, Nat.le_refl _, f1, rfl, by rw [HF0.out]⟩
        case round =>
          obtain ⟨i', g1, g2, rfl, rfl⟩ := hrel
          by_cases hi : i' < T
          · have his : i' < s.size := by omega
            have hi1 : (i' : Int) < (s.size : Int) := by omega
            have hi2 : (i' : Int) < (T : Int) := by omega
            have hfd := feed_lt hi
            by_cases hiT : i' + 1 = T
            · have hq : (((s[i']).toNat : Int) == 10) = true := by
                have := (F4.out i' g1 hi).2 ⟨hin, hiT⟩
                rw [← byteAt_eq s i' his]; simp; omega
              have HIT := Lib.hid hiT
              clear hiT
              go_wp2
              go_round
              case rel => exact ⟨i' + 1, by omega, by omega, by go_num, by rw [HIT.out, feed_eq]⟩
              case measure => simp [intOf]; omega
            · have hq : (((s[i']).toNat : Int) == 10) = false := by
                have : ¬ byteAt s i' = 10 := fun q => hiT ((F4.out i' g1 hi).1 q).2
                rw [← byteAt_eq s i' his]; simp; omega
              have HIT : Hid (feed (i' + 1) T = 0) := Lib.hid (feed_lt (by omega))
              go_wp2
              go_round
              case rel => exact ⟨i' + 1, by omega, by omega, by go_num, by rw [HIT.out, feed_lt hi]⟩
              case measure => simp [intOf]; omega
          · obtain rfl : i' = T := by omega
            have hfe := feed_eq i'
            have hT1 : i' - 1 < s.size := by omega
            have hT2 : (0 : Int) ≤ (i' : Int) - 1 := by omega
            have hT3 : (i' : Int) - 1 < (s.size : Int) := by omega
            have hq : (((s[i' - 1]).toNat : Int) != 10) = false := by
              have := (F4.out (i' - 1) (by omega) (by omega)).2 ⟨hin, by omega⟩
              rw [← byteAt_eq s (i' - 1) hT1]; simp; omega
            go_wp2
            go_roundw
            case rel => exact ⟨j + 1, by omega, by go_num, by rw [← HT'.out], s0, s1, l0, R4.out, B4.out⟩
            case measure => simp [intOf]; omega
      · have k1 : decide ((j : Int) + 1 < (n : Int)) = false := by simp; omega
        have k2 : ((j : Int) + 1 == (n : Int)) = true := by simp; omega
        go_loop [10, 11] (fun c i => ∃ i' : Nat, F ≤ i' ∧ i' ≤ T ∧ i = .int .i64 i' ∧ c = .int .i64 0) (fun _ i => T - (intOf i).toNat)
        case atStart => exact ⟨F, Nat.le_refl _, f1, rfl, rfl⟩
        case round =>
          obtain ⟨i', g1, g2, rfl, rfl⟩ := hrel
          by_cases hi : i' < T
          · have his : i' < s.size := by omega
            have hi1 : (i' : Int) < (s.size : Int) := by omega
            have hi2 : (i' : Int) < (T : Int) := by omega
            have hq : (((s[i']).toNat : Int) == 10) = false := by
              have : ¬ byteAt s i' = 10 := fun q => hin ((F4.out i' g1 hi).1 q).1
              rw [← byteAt_eq s i' his]; simp; omega
            go_wp2
            go_round
            case rel => exact ⟨i' + 1, by omega, by omega, by go_num, rfl⟩
            case measure => simp [intOf]; omega
          · obtain rfl : i' = T := by omega
            go_wp2
            go_roundw
            case rel => exact ⟨j + 1, by omega, by go_num, by rw [← HT'.out], s0, s1, l0, R4.out, B4.out⟩
            case measure => simp [intOf]; omega
    · obtain rfl : j = n := by omega
      have dk : decide ((j : Int) + 1 ≤ (j : Int)) = false := by simp; omega
      have BN' := BN.out
      have de : ((bnd s j : Int) == (s.size : Int)) = true := by simp [BN']
      clear BN'
      go_wp2
      go_ret
      exact ⟨rfl, HB.out.trans (BB.out.mono HB.out.size)⟩
end Go.Proofs.Ytlnobjdlcnpjeaa
