/-
  The walks of declaration at a struct, of file.
  The walk of Print.
  The walk of Print, whole.
-/
import Derived.Test.YticbcnhbpbaocaaGreatDoorQF
import Derived.Test.YticbcnhbpbaocaaGreatDoorQA
import Derived.Test.YticbcnhbpbaocaaGreatDoorQG
import Derived.Test.YticbcnhbpbaocaaGreatDoorQH
import Derived.Test.YticbcnhbpbaocaaGreatDoorMA

set_option linter.all false
namespace Go.Proofs.YticbcnhbpbaocaaGreatDoor
open Go.RowKit T T.Fo
set_option linter.all false

set_option maxRecDepth 100000 in
set_option maxHeartbeats 4000000 in
theorem dec_2 {W : World} {B b : Nat} {d d1 : Int} (t : ByteArray) (n p tk : Int) (tn : ByteArray) (r u : Int) (F : Fo) (τ : Hd → Fo → Bs) (hd : 0 ≤ d) (hd6 : d ≤ 60) (hd1 : d + 1 = d1) (hP : F.All fun h k => PrnT 71 h k (τ h k) d1 B b W) (hm : F.cnt ≤ 1048576) :
    PrnT 51 ⟨2, t, n, p, tk, tn, r, u⟩ F ([116, 121, 112, 101, 32] ++ t.data.toList ++ [32, 115, 116, 114, 117, 99, 116, 32] ++ blkS d.toNat (linF d1 τ F)) d B b W := by
  intro A cap hcap hk l w hp hb hlen
  have HW := Lib.hid (hp.below1 (bx ⟨2, t, n, p, tk, tn, r, u⟩ A F.len cap))
  have HKW := Lib.hid (Kp.alloc w (bx ⟨2, t, n, p, tk, tn, r, u⟩ A F.len cap))
  have S1 := Lib.hid (hp.fresh (bx ⟨2, t, n, p, tk, tn, r, u⟩ A F.len cap))
  have HB := Lib.hid (Nb.new w ⟨2, t, n, p, tk, tn, r, u⟩ A F.len cap)
  have HD1 := Lib.hid hd1
  obtain ⟨tx, htx⟩ : ∃ tx, blkS d.toNat (linF d1 τ F) = tx := ⟨_, rfl⟩
  obtain ⟨m, hme⟩ : ∃ m, F.len = m := ⟨_, rfl⟩
  have HC : Hid (∀ l1 W1, Sn (w.alloc (bx ⟨2, t, n, p, tk, tn, r, u⟩ A m cap)) B b l1 d W1 → l1.length + tx.length ≤ lim → Calls Tryz.prog 70 #[pt b, .slice A m cap, .func (.func 71) #[pt b] #[]] W1 (Done (w.alloc (bx ⟨2, t, n, p, tk, tn, r, u⟩ A m cap)) B b (l1 ++ tx) d)) := Lib.hid fun l1 W1 s1 hl => by
    rw [← htx] at hl ⊢
    rw [← hme] at s1 ⊢
    have hbb : Below B W W1 := (hb.trans HW.out).trans s1.bl
    exact braces_71 F τ s1 hd hd6 HD1.out (hk.below hbb (Nat.le_refl _)) (all_imp (fun h k hh => hh.mv (hb.trans HW.out)) hP) (fun A k h => kids_back h s1.bl) hm hl
  rw [htx] at hlen ⊢
  rw [hme] at HW HKW S1 HB ⊢
  simp only [List.length_append, List.length_cons, List.length_nil, len_toList] at hlen
  clear hk hcap hp hb hP htx hme hd1
  go_enter Tryz.func51, Tryz.ntmps51
  go_wp2_with (first
    | (go_at_call 70; refine (HC.out _ _ S2.out (by (try simp only [List.length_append, List.length_cons, List.length_nil, len_toList]); (try show _ ≤ _); omega)).mono ?_; rintro e w3 ⟨rfl, s3⟩; have S3 := Lib.hid s3; clear s3)
    | (go_at_call 52; refine (write3 S1.out ⟨#[116, 121, 112, 101, 32]⟩ t ⟨#[32, 115, 116, 114, 117, 99, 116, 32]⟩ (by (try simp only [List.length_append, List.length_cons, List.length_nil, len_toList]); (try show _ ≤ _); omega) (by first | rfl | simp)).mono ?_; rintro e w2 ⟨rfl, s2⟩; have S2 := Lib.hid s2; obtain ⟨b0, b1, b2, b3, b4, b5, b6, b7, b8⟩ := (HB.out.kp s2.kp).cells; clear s2))
  go_end0
  exact S3.out.done HW.out HKW.out (by simp [List.append_assoc])

set_option maxRecDepth 100000 in
set_option maxHeartbeats 4000000 in
theorem file_any {W : World} {B b : Nat} {d : Int} (h : Hd) (F : Fo) (τ : Hd → Fo → Bs) (hP : F.All fun h k => PrnT 51 h k (τ h k) d B b W) (hm : F.cnt ≤ 1048576) :
    PrnT 36 h F (flatF (fun h k => τ h k ++ [10]) F) d B b W := by
  intro A cap hcap hk l w hp hb hlen
  obtain ⟨m, hme⟩ : ∃ m, F.len = m := ⟨_, rfl⟩
  have hml : m ≤ 1048576 := by have := F.len_le_cnt; omega
  have HME := Lib.hid hme
  rw [hme]
  have HW := Lib.hid (hp.below1 (bx h A m cap))
  have HKW := Lib.hid (Kp.alloc w (bx h A m cap))
  have S2 := Lib.hid (hp.fresh (bx h A m cap))
  have HB := Lib.hid (Nb.new w h A m cap)
  have HBW := Lib.hid (hb.trans HW.out)
  have HR := Lib.hid (Rest.start hk)
  have HP := Lib.hid hP
  obtain ⟨tx, htx⟩ : ∃ tx, flatF (fun h k => τ h k ++ [10]) F = tx := ⟨_, rfl⟩
  have HTX := Lib.hid htx
  rw [htx] at hlen ⊢
  obtain ⟨w2, hw2⟩ : ∃ w2, w.alloc (bx h A m cap) = w2 := ⟨_, rfl⟩
  have HW2 := Lib.hid hw2
  rw [hw2] at HW HKW S2 HBW
  clear hk hcap hp hb hP hme htx hw2
  go_enter Tryz.func36, Tryz.ntmps36
  go_wp2
  go_loopw [9] (fun ix wr => ∃ (i : Nat) (R : Fo) (l' : Bs), ix = .int .i64 (i : Int) ∧ Rest (Lt B) W A F i R ∧ (R.All fun h k => PrnT 51 h k (τ h k) d B b W) ∧ Sn w2 B b l' d wr ∧ l' ++ flatF (fun h k => τ h k ++ [10]) R = l ++ tx) (fun ix _ => m - (intOf ix).toNat)
  case atStart => exact ⟨0, F, l, rfl, HR.out, HP.out, by first | exact HW2.out ▸ S2.out | (rw [← HW2.out] at S2 ⊢; exact S2.out), by rw [HTX.out]⟩
  case round =>
    obtain ⟨i, R, l', rfl, hr, hp, hs, ht⟩ := hrel
    have HS := Lib.hid hs
    cases R with
    | nil =>
      have hi := hr.stop
      obtain rfl : i = m := by have := HME.out; omega
      have e : l' = l ++ tx := by rw [← ht, flatF_nil]; simp
      have HE := Lib.hid e
      clear hr hp hs ht hi e
      go_wp2
      go_end0
      exact HS.out.done HW.out HKW.out (by rw [HE.out])
    | cons h' k' r =>
      obtain ⟨g, o, A', cap', rfl, h9, hkc, hk', hr', hi, hg⟩ := hr.next
      have hgB : g < B := hg
      have hbb : Below B W wr := HBW.out.trans hs.bl
      obtain ⟨c0, c1, c2, c3, c4, c5, c6, c7, c8⟩ := h9.below hbb hgB
      have hrw := hr.tail
      have HRR := Lib.hid hrw
      obtain ⟨p1, p2⟩ := hp
      have HP2 := Lib.hid p2
      have HP1 := Lib.hid ((p1 A' cap' hkc hk').mono hbb)
      obtain ⟨t1, ht1⟩ : ∃ t1, τ h' k' = t1 := ⟨_, rfl⟩
      rw [ht1] at HP1
      have S3 := Lib.hid (Sn.start (hs.pz.keep ((Below.refl wr.heap.size wr).alloc (Nat.le_refl _) (bx h' A' k'.len cap'))))
      have HWR := Lib.hid (hs.al (bx h' A' k'.len cap'))
      have HP3 := Lib.hid (HP1.out.mono (hs.pz.below1 (bx h' A' k'.len cap')))
      have him : i < m := by have := HME.out; omega
      have hi1 : (i : Int) < (m : Int) := by omega
      have hi2 : ¬ (m : Int) ≤ (i : Int) := by omega
      have e2 : (l' ++ t1 ++ [10]) ++ flatF (fun h k => τ h k ++ [10]) r = l ++ tx := by
        rw [← ht, flatF_cons, ht1]; simp
      have hl2 : l'.length + t1.length + 1 ≤ lim := by
        have := congrArg List.length e2
        simp only [List.length_append, List.length_cons, List.length_nil] at this
        omega
      have HE := Lib.hid e2
      clear hr hr' hrw hk' p1 p2 hs ht h9 e2 ht1 hbb
      go_wp2_with (first
        | (go_at_call 52; refine (write1 S4.out ⟨#[10]⟩ (by (try simp only [List.length_append, List.length_cons, List.length_nil, len_toList]); (try show _ ≤ _); omega) (by first | rfl | simp)).mono ?_; rintro e w4 ⟨rfl, s4⟩; have S5 := Lib.hid s4; clear s4)
        | (go_at_call 51; refine (S3.out.prn HP3.out (by (try simp only [List.length_append, List.length_cons, List.length_nil, len_toList]); (try show _ ≤ _); omega)).mono ?_; rintro e w3 ⟨rfl, s3⟩; have S4 := Lib.hid s3; clear s3))
      go_roundw
      case rel => exact ⟨i + 1, r, l' ++ t1 ++ [10], by go_num, HRR.out, HP2.out, HWR.out.trans S5.out, HE.out⟩
      case measure => simp [intOf]; omega
end Go.Proofs.YticbcnhbpbaocaaGreatDoor

namespace Go.Proofs.YticbcnhbpbaocaaGreatDoor
open Go.RowKit T T.Fo
set_option linter.all false

theorem Pz.new (w : World) (ht : Tb w) (h16 : 5 ≤ w.heap.size) : Pz (w.alloc (.cells #[.pointer none, .slice none 0 0, .int .i64 0] 52)) w.heap.size w.heap.size [] 0 :=
  ⟨⟨.pointer none, none, 0, .inl rfl, ⟨Nat.le_refl _, heap_alloc_new w _, World.ownsRow_nil _ _ _ _, by simp [Value.ownBlock]⟩⟩, ht.below ((Below.refl _ _).alloc (Nat.le_refl _) _) h16, by simp, h16⟩
theorem str_eq {a b : ByteArray} (h : a = b) : Ending.returned (.string a) = .returned (.string b) := by rw [h]

set_option maxRecDepth 100000 in
set_option maxHeartbeats 4000000 in
theorem print_no (h : Hd) (F : Fo) (A : Option Addr) (cap : Nat) (w : World) (hG : Glob w) (hk : Kids (Lt w.heap.size) w A F) (hn : numIx h) (hF : F.AllH numIx) (hm : F.cnt ≤ 1048576) (hv : validT nm h F = false) :
    Calls Tryz.prog 23 #[nv h A F.len cap] w fun e w' => e = .returned (.string ⟨#[]⟩) ∧ Below w.heap.size w w' := by
  have HW : Hid (Below w.heap.size w (w.alloc (bx h A F.len cap))) := Lib.hid ((Below.refl _ _).alloc (Nat.le_refl _) _)
  have HV : Hid (Calls Tryz.prog 13 #[nv h A F.len cap] (w.alloc (bx h A F.len cap)) fun e w' => e = .returned (.bool false) ∧ Below w.heap.size w w') := Lib.hid ((valid_any h F A cap _ (glob_below hG HW.out) ((hk.below HW.out (Nat.le_refl _)).mono HW.out.size) hn hF hm).mono fun e w' hq => ⟨by rw [hq.1, hv], HW.out.trans (hq.2.mono HW.out.size)⟩)
  obtain ⟨m, hme⟩ : ∃ m, F.len = m := ⟨_, rfl⟩
  rw [hme] at HV HW ⊢
  clear hG hk hn hF hm hv hme
  go_enter Tryz.func23, Tryz.ntmps23
  go_wp2_with (go_at_call 13; refine HV.out.mono ?_; rintro e w2 ⟨rfl, b2⟩; have B2 := Lib.hid b2; clear b2)
  go_ret
  exact ⟨rfl, B2.out⟩

set_option maxRecDepth 100000 in
set_option maxHeartbeats 4000000 in
theorem print_yes (h : Hd) (F : Fo) (A : Option Addr) (cap : Nat) (w : World) (hG : Glob w) (hT : Tb w) (h16 : 5 ≤ w.heap.size) (hcap : F.len ≤ cap) (hk : Kids (Lt w.heap.size) w A F) (hn : numIx h) (hF : F.AllH numIx) (hm : F.cnt ≤ 1048576) (hv : validT nm h F = true) (tx : Bs) (hlen : tx.length ≤ lim)
    (HP : ∀ B b W, PrnT 36 h F tx 0 B b W) :
    Calls Tryz.prog 23 #[nv h A F.len cap] w fun e w' => e = .returned (.string ⟨tx.toArray⟩) ∧ Below w.heap.size w w' := by
  have HW : Hid (Below w.heap.size w (w.alloc (bx h A F.len cap))) := Lib.hid ((Below.refl _ _).alloc (Nat.le_refl _) _)
  have HV : Hid (Calls Tryz.prog 13 #[nv h A F.len cap] (w.alloc (bx h A F.len cap)) fun e w' => e = .returned (.bool true) ∧ Below (w.heap.size + 1) (w.alloc (bx h A F.len cap)) w') := Lib.hid ((valid_any h F A cap _ (glob_below hG HW.out) ((hk.below HW.out (Nat.le_refl _)).mono HW.out.size) hn hF hm).mono fun e w' hq => ⟨by rw [hq.1, hv], by have := hq.2; simpa using this⟩)
  have HB := Lib.hid (Nb.new w h A F.len cap)
  have HS : Hid (∀ w2, Below (w.heap.size + 1) (w.alloc (bx h A F.len cap)) w2 → Calls Tryz.prog 36 #[pt w2.heap.size, nv h A F.len cap] (w2.alloc (.cells #[.pointer none, .slice none 0 0, .int .i64 0] 52)) (fun e w' => e = .returned (.tuple #[]) ∧ Pr w' w2.heap.size w2.heap.size tx 0 ∧ Below w2.heap.size w2 w' ∧ w2.heap.size ≤ w'.heap.size)) := Lib.hid fun w2 hb2 => by
    have h1 : w.heap.size + 1 ≤ w2.heap.size := by have := hb2.size; simpa using this
    have hb0 : Below w.heap.size w w2 := HW.out.trans (hb2.mono (by omega))
    have hp := Pz.new w2 (hT.below hb0 h16) (by omega)
    have hkk : Kids (Lt w2.heap.size) (w2.alloc (.cells #[.pointer none, .slice none 0 0, .int .i64 0] 52)) A F := ((hk.below hb0 (Nat.le_refl _)).mono (by omega)).below ((Below.refl _ _).alloc (Nat.le_refl _) _) (Nat.le_refl _)
    exact (HP w2.heap.size w2.heap.size _ A cap hcap hkk [] _ hp (Below.refl _ _) (by simpa using hlen)).mono fun e w' hq => by
      obtain ⟨he, hp', hb', _⟩ := hq
      have hbz : Below w2.heap.size w2 w' := ((Below.refl _ _).alloc (Nat.le_refl _) _).trans hb'
      exact ⟨he, by simpa using hp'.pr, hbz, hbz.size⟩
  obtain ⟨m, hme⟩ : ∃ m, F.len = m := ⟨_, rfl⟩
  rw [hme] at HV HW HB HS ⊢
  clear hG hk hn hF hm hv hme HP hT hlen hcap
  go_enter Tryz.func23, Tryz.ntmps23
  go_wp2_with (go_at_call 13; refine HV.out.mono ?_; rintro e w2 ⟨rfl, b2⟩; have B2 := Lib.hid b2; obtain ⟨c0, c1, c2, c3, c4, c5, c6, c7, c8⟩ := (HB.out.below (by simpa using b2)).cells; have hz : w.heap.size < w2.heap.size := (by have := b2.size; simp at this; omega); clear b2)
  go_wp2_with (go_at_call 36; refine (HS.out w2 B2.out).mono ?_; rintro e w3 ⟨rfl, hp3, hb3, hs3⟩; have P3 := Lib.hid hp3; have B3 := Lib.hid hb3; have hbk := hp3; clear hp3 hb3)
  go_wp2_with (go_at_call 37; refine (string_any w3 P3.out hs3).mono ?_; rintro e w4 ⟨rfl, hb4⟩; have B4 := Lib.hid hb4; clear hb4)
  go_ret
  exact ⟨rfl, HW.out.trans ((B2.out.mono (by omega)).trans ((B3.out.trans B4.out).mono (by omega)))⟩
end Go.Proofs.YticbcnhbpbaocaaGreatDoor

namespace Go.Proofs.YticbcnhbpbaocaaGreatDoor
open Go.RowKit T T.Fo
set_option linter.all false

theorem nm_len {s : ByteArray} (h : nm s = true) : s.data.toList.length ≤ 32 := by
  have : M.nmB s.data.toList = true := M.nmS_no h
  unfold M.nmB at this
  simp only [Bool.and_eq_true, decide_eq_true_eq] at this
  exact this.1.1.1
theorem len_of_mem {l : List (List UInt8)} {t : List UInt8} {m : Nat} (h : l.contains t = true) (hm : (l.all fun x => decide (x.length ≤ m)) = true) : t.length ≤ m := by
  have h1 : t ∈ l := by simpa using h
  have := List.all_eq_true.1 hm t h1
  simpa using this
theorem text_len {h : Hd} (ht : textFits nm h = true) : h.text.data.toList.length ≤ 20000 := by
  unfold textFits at ht
  split at ht
  · have := nm_len ht; omega
  · split at ht
    · simp only [Bool.or_eq_true, beq_iff_eq] at ht
      rcases ht with h | h <;> rw [h] <;> simp
    · split at ht
      · have := len_of_mem (m := 2) ht (by decide); omega
      · split at ht
        · have := len_of_mem (m := 7) ht (by decide); omega
        · simp only [beq_iff_eq] at ht
          rw [ht]; simp
theorem num_bd {h : Hd} (hn : numIx h) : h.num < 9223372036854775808 := by
  have := hn.1
  unfold Lit.wf at this
  rw [Bool.and_eq_true, decide_eq_true_eq, decide_eq_true_eq] at this
  have h2 : h.num ≤ IntKind.i64.max := this.2
  have e : IntKind.i64.max = 9223372036854775807 := by decide
  omega
theorem sh_kids : ∀ {F : Fo}, okF nm F = true → F.AllH numIx → F.AllH sh
  | .nil, _, _ => trivial
  | .cons h k r, ho, hn => by
    rw [okF_cons, Bool.and_eq_true] at ho
    have h1 := ho.1
    unfold okT at h1
    simp only [Bool.and_eq_true] at h1
    exact ⟨⟨text_len h1.1.1.1, num_bd hn.1⟩, sh_kids h1.2 hn.2.1, sh_kids ho.2 hn.2.2⟩
theorem all_pp (B b : Nat) : ∀ F : Fo, F.All (PP B b)
  | .nil => trivial
  | .cons h k r => ⟨pp_any B b h k, all_pp B b r⟩

theorem field_pp {n B b : Nat} {W : World} {h : Hd} {k : Fo} (e : h.kind = 3) (g : Gd n h k) : PrnT 71 h k (rcT n h k).st (n : Int) B b W := by
  have hc := g.parts.2.2.1
  obtain ⟨kd, t, nu, p, tk, tn, r, u⟩ := h
  obtain rfl : kd = 3 := e
  simp [childrenFit, places] at hc
  obtain ⟨h0, k0, rfl, q0⟩ := fits_one hc
  exact field_any ⟨3, t, nu, p, tk, tn, r, u⟩ h0 k0 g.sk.1.1
theorem fields_pp {n B b : Nat} {W : World} {k : Fo} (g : k.All (Gd n)) (hA : k.All fun h k => one [3] h k = true) : k.All fun h' k' => PrnT 71 h' k' (rcT n h' k').st (n : Int) B b W :=
  all_imp (fun h k hh => field_pp (by have := one_kind hh.2; simpa using this) hh.1) (all_and g hA)
theorem decl_2 {n B b : Nat} {W : World} {k : Fo} (t : ByteArray) (nu p tk : Int) (tn : ByteArray) (r u : Int) (g : Gd n ⟨2, t, nu, p, tk, tn, r, u⟩ k) : PrnT 51 ⟨2, t, nu, p, tk, tn, r, u⟩ k (rcT n ⟨2, t, nu, p, tk, tn, r, u⟩ k).st (n : Int) B b W := by
  have hc := g.parts.2.2.1
  have hd := g.d
  have hcn := g.c
  simp [childrenFit, places] at hc
  have := dec_2 (d := (n : Int)) (d1 := ((n + 1 : Nat) : Int)) (B := B) (b := b) (W := W) t nu p tk tn r u k _ (by omega) (by omega) (by omega) (fields_pp g.kids1 (fits_rep hc).2) (by omega)
  rw [linF_st, Int.toNat_natCast] at this
  exact this
theorem decl_6 {n B b : Nat} {W : World} {k : Fo} (t : ByteArray) (nu p tk : Int) (tn : ByteArray) (r u : Int) (hl : lastK k = 9) (g : Gd n ⟨6, t, nu, p, tk, tn, r, u⟩ k) : PrnT 51 ⟨6, t, nu, p, tk, tn, r, u⟩ k (rcT n ⟨6, t, nu, p, tk, tn, r, u⟩ k).st (n : Int) B b W := by
  have hc := g.parts.2.2.1
  simp [childrenFit, places] at hc
  obtain ⟨h0, k0, h1, k1, rfl, q0, q1⟩ := fits_two hc
  have hs0 : h0.text.size ≤ 20000 := g.sk.1.1
  refine dec_6 t nu p tk tn r u _ _ ?_
  have h9' : h1.kind = 9 := hl
  have h9 : (h1.kind == 9) = true := by simpa using h9'
  have e : (rcT n ⟨6, t, nu, p, tk, tn, r, u⟩ (.cons h0 k0 (.cons h1 k1 .nil))).st = [118, 97, 114, 32] ++ t.data.toList ++ [32] ++ typeS h0 ++ [] := by
    show varS _ [rcT n h0 k0, rcT n h1 k1] = _
    simp [varS, nth, rcT_h, h9']
  rw [e]
  exact variable_no _ h0 h1 k0 k1 hs0 h9
theorem decl_4 {n B b : Nat} {W : World} {k : Fo} (t : ByteArray) (nu p tk : Int) (tn : ByteArray) (r u : Int) (g : Gd n ⟨4, t, nu, p, tk, tn, r, u⟩ k) : PrnT 51 ⟨4, t, nu, p, tk, tn, r, u⟩ k (rcT n ⟨4, t, nu, p, tk, tn, r, u⟩ k).st (n : Int) B b W := by
  have hc := g.parts.2.2.1
  have hcn := g.c
  simp [childrenFit, places] at hc
  obtain ⟨h0, k0, h1, k1, h2, k2, rfl, q0, q1, q2⟩ := fits_three hc
  have e0 := one_kind q0
  have e2 := one_kind q2
  simp at e0 e2
  have g0 := g.kids.1
  have c0 := g0.parts.2.2.1
  have P2 := (pp_any B b h2 k2 n W g.kids.2.2.1).bl e2
  rw [st_10 n h2 k2 e2] at P2
  have ej : (rcT n h0 k0).st = joinC (mapF (fun h k => (rcT n h k).st) k0) := by
    rw [mapF_st]
    obtain ⟨kd, t, nu, p, tk, tn, r, u⟩ := h0
    obtain rfl : kd = 5 := e0
    rfl
  have hA : k0.All fun h k => one [3] h k = true := by
    obtain ⟨kd, t, nu, p, tk, tn, r, u⟩ := h0
    obtain rfl : kd = 5 := e0
    simp [childrenFit, places] at c0
    exact (fits_rep c0).2
  have hF := fields_pp (W := W) (B := B) (b := b) g0.kids hA
  have hm0 : k0.cnt ≤ 1048576 := by simp only [Fo.cnt] at hcn; omega
  have hs1 : h1.text.size ≤ 20000 := g.sk.2.2.1.1
  refine dec_4 t nu p tk tn r u _ _ ?_
  by_cases h9 : (h1.kind == 9) = true
  · have e : (rcT n ⟨4, t, nu, p, tk, tn, r, u⟩ (.cons h0 k0 (.cons h1 k1 (.cons h2 k2 .nil)))).st = [102, 117, 110, 99, 32] ++ t.data.toList ++ [40] ++ joinC (mapF (fun h k => (rcT n h k).st) k0) ++ [41, 32] ++ blkS n (rcT n h2 k2).ls := by
      show stS n ⟨4, t, nu, p, tk, tn, r, u⟩ (linesS (n + 1) [rcT (n + 1) h0 k0, rcT (n + 1) h1 k1, rcT (n + 1) h2 k2]) [rcT n h0 k0, rcT n h1 k1, rcT n h2 k2] = _
      have h9' : h1.kind = 9 := by simpa using h9
      simp [stS, nth, rcT_h, h9', ej]
    rw [e]
    exact function_no _ h0 h1 h2 k0 k1 k2 _ _ hF hm0 P2 h9
  · have h9f : (h1.kind == 9) = false := by simpa using h9
    have e : (rcT n ⟨4, t, nu, p, tk, tn, r, u⟩ (.cons h0 k0 (.cons h1 k1 (.cons h2 k2 .nil)))).st = [102, 117, 110, 99, 32] ++ t.data.toList ++ [40] ++ joinC (mapF (fun h k => (rcT n h k).st) k0) ++ [41, 32] ++ (typeS h1 ++ [32]) ++ blkS n (rcT n h2 k2).ls := by
      show stS n ⟨4, t, nu, p, tk, tn, r, u⟩ (linesS (n + 1) [rcT (n + 1) h0 k0, rcT (n + 1) h1 k1, rcT (n + 1) h2 k2]) [rcT n h0 k0, rcT n h1 k1, rcT n h2 k2] = _
      have h9' : ¬ h1.kind = 9 := by simpa using h9
      simp [stS, nth, rcT_h, h9', ej]
    rw [e]
    exact function_yes _ h0 h1 h2 k0 k1 k2 _ _ hF hm0 P2 hs1 h9f
theorem decl_pp {n B b : Nat} {W : World} {h : Hd} {k : Fo} (e : declT h k = true) (g : Gd n h k) : PrnT 51 h k (rcT n h k).st (n : Int) B b W := by
  obtain ⟨kd, t, nu, p, tk, tn, r, u⟩ := h
  simp only [declT, Bool.or_eq_true, Bool.and_eq_true, beq_iff_eq] at e
  rcases e with (rfl | rfl) | ⟨rfl, hl⟩
  · exact decl_2 t nu p tk tn r u g
  · exact decl_4 t nu p tk tn r u g
  · exact decl_6 t nu p tk tn r u hl g
theorem fileS_flat : ∀ F : Fo, flatF (fun h k => (rcT 0 h k).st ++ [10]) F = fileS F
  | .nil => rfl
  | .cons h k r => by rw [flatF_cons, fileS_flat r]; unfold fileS; rw [rcF_cons]; simp
theorem file_pp {B b : Nat} {W : World} {h : Hd} {k : Fo} (hv : validT nm h k = true) (hn : numIx h) (hF : k.AllH numIx) (hm : k.cnt + 1 ≤ 1048576) : PrnT 36 h k (fileS k) 0 B b W ∧ (fileS k).length ≤ lim := by
  unfold validT at hv
  rw [permT_dep, Bool.and_eq_true, Bool.and_eq_true] at hv
  obtain ⟨hk, ho, hd⟩ := hv
  have hd' : k.dep + 1 ≤ 50 := by simpa using hd
  have hp := ho
  unfold okT at hp
  simp only [Bool.and_eq_true] at hp
  obtain ⟨⟨⟨p1, p2⟩, p3⟩, p4⟩ := hp
  have hs := sh_kids p4 hF
  have g : Gd 0 h k := ⟨ho, ⟨text_len p1, num_bd hn⟩, hs, by omega, hm⟩
  have hk1 : h.kind = 1 := by simpa using hk
  have hA : k.All fun h k => declT h k = true := by
    obtain ⟨kd, t, nu, p, tk, tn, r, u⟩ := h
    obtain rfl : kd = 1 := hk1
    simp [childrenFit, places] at p3
    exact (fits_rep p3).2
  have hD : k.All fun h' k' => PrnT 51 h' k' (rcT 0 h' k').st 0 B b W := all_imp (fun h k hh => decl_pp hh.1 hh.2) (all_and hA g.kids)
  refine ⟨?_, ?_⟩
  · rw [← fileS_flat]
    exact file_any h k _ hD (by omega)
  · have := fileS_len k (by omega) hs
    unfold lim
    omega
/-- Print returns the model's text. -/
theorem print_any (h : Hd) (F : Fo) (A : Option Addr) (cap : Nat) (w : World) (hG : Glob w) (hT : Tb w) (h16 : 5 ≤ w.heap.size) (hcap : F.len ≤ cap) (hk : Kids (Lt w.heap.size) w A F) (hn : numIx h) (hF : F.AllH numIx) (hm : F.cnt + 1 ≤ 1048576) :
    Calls Tryz.prog 23 #[nv h A F.len cap] w fun e w' => e = .returned (.string ⟨(printT nm h F).toArray⟩) ∧ Below w.heap.size w w' := by
  by_cases hv : validT nm h F = true
  · have := print_yes h F A cap w hG hT h16 hcap hk hn hF (by omega) hv (fileS F) (file_pp (B := 0) (b := 0) (W := w) hv hn hF hm).2 (fun B b W => (file_pp hv hn hF hm).1)
    rw [show printT nm h F = fileS F from if_pos hv]
    exact this
  · have hv : validT nm h F = false := by simpa using hv
    rw [show printT nm h F = [] from if_neg (by rw [hv]; simp)]
    exact print_no h F A cap w hG hk hn hF (by omega) hv
end Go.Proofs.YticbcnhbpbaocaaGreatDoor
