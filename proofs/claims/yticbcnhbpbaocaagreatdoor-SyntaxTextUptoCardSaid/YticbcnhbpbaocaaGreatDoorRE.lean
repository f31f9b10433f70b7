/-
  The walks of the specification's IsExpr whole, kind, isBlock, isVar, isIf.
-/
import Derived.Test.YticbcnhbpbaocaaGreatDoorRD
set_option linter.all false
namespace Go.Proofs.YticbcnhbpbaocaaGreatDoor
open Go.RowKit T T.Fo
/-- The contracts at a tree, in every world. -/
def CE (h : Hd) (k : Fo) : Prop := ∀ A cap w, Kids (Lt w.heap.size) w A k → CB' 67 w (nv h A k.len cap) (exOk nmv h k)
def CBl (h : Hd) (k : Fo) : Prop := ∀ A cap w, Kids (Lt w.heap.size) w A k → CB' 50 w (nv h A k.len cap) (kdOk nmv 10 h k)
def CI (h : Hd) (k : Fo) : Prop := ∀ A cap w, Kids (Lt w.heap.size) w A k → CB' 91 w (nv h A k.len cap) (kdOk nmv 18 h k)
def CS (h : Hd) (k : Fo) : Prop := ∀ A cap w, Kids (Lt w.heap.size) w A k → CB' 69 w (nv h A k.len cap) (stOk nmv h k)
def CC (h : Hd) (k : Fo) : Prop := ∀ A cap w, Kids (Lt w.heap.size) w A k → CB' 113 w (nv h A k.len cap) (coOk nmv h k)
theorem kids_at' {w V : World} {A : Option Addr} {F : Fo} (hk : Kids (Lt w.heap.size) w A F) (hV : Below w.heap.size w V) : Kids (Lt V.heap.size) V A F := (hk.below hV (Nat.le_refl _)).mono hV.size
theorem CE.at {h : Hd} {k : Fo} (H : CE h k) {A : Option Addr} {cap : Nat} {w : World} (hk : Kids (Lt w.heap.size) w A k) : At 67 w (nv h A k.len cap) (exOk nmv h k) := fun V hV => H A cap V (kids_at' hk hV)
theorem CBl.at {h : Hd} {k : Fo} (H : CBl h k) {A : Option Addr} {cap : Nat} {w : World} (hk : Kids (Lt w.heap.size) w A k) : At 50 w (nv h A k.len cap) (kdOk nmv 10 h k) := fun V hV => H A cap V (kids_at' hk hV)
theorem CI.at {h : Hd} {k : Fo} (H : CI h k) {A : Option Addr} {cap : Nat} {w : World} (hk : Kids (Lt w.heap.size) w A k) : At 91 w (nv h A k.len cap) (kdOk nmv 18 h k) := fun V hV => H A cap V (kids_at' hk hV)
theorem CS.at {h : Hd} {k : Fo} (H : CS h k) {A : Option Addr} {cap : Nat} {w : World} (hk : Kids (Lt w.heap.size) w A k) : At 69 w (nv h A k.len cap) (stOk nmv h k) := fun V hV => H A cap V (kids_at' hk hV)
theorem CC.at {h : Hd} {k : Fo} (H : CC h k) {A : Option Addr} {cap : Nat} {w : World} (hk : Kids (Lt w.heap.size) w A k) : At 113 w (nv h A k.len cap) (coOk nmv h k) := fun V hV => H A cap V (kids_at' hk hV)
theorem all_imp' {P Q : Hd → Fo → Prop} (H : ∀ h k, P h k → Q h k) : ∀ F : Fo, F.All P → F.All Q := by
  intro F
  induction F with
  | nil => intro _; trivial
  | cons h k r _ ih => intro ⟨a, b⟩; exact ⟨H h k a, ih b⟩
theorem all_CE {w : World} (F : Fo) : F.All CE → F.All fun h k => ∀ A cap, Kids (Lt w.heap.size) w A k → At 67 w (nv h A k.len cap) (exOk nmv h k) := by
  induction F with
  | nil => intro _; trivial
  | cons h k r _ ih => intro ⟨a, b⟩; exact ⟨fun A cap hk => CE.at a hk, ih b⟩
theorem all_CS {w : World} (F : Fo) : F.All CS → F.All fun h k => ∀ A cap, Kids (Lt w.heap.size) w A k → At 69 w (nv h A k.len cap) (stOk nmv h k) := by
  induction F with
  | nil => intro _; trivial
  | cons h k r _ ih => intro ⟨a, b⟩; exact ⟨fun A cap hk => CS.at a hk, ih b⟩
theorem exprs_at {F : Fo} (hE : F.All CE) (hfl : F.len ≤ 1048576) {A : Option Addr} {cap : Nat} {w : World} (hk : Kids (Lt w.heap.size) w A F) : At 89 w (.slice A F.len cap) (allB (exOk nmv) F) := fun V hV =>
  exprs_any F A cap V hfl (kids_at' hk hV) (all_CE F hE)
theorem name_yes {tx : ByteArray} (h : nmv tx = true) (hm : tx.size ≤ maxLen) : ∀ W, Calls Tryz.prog 45 #[.string tx] W fun e w' => e = .returned (.bool true) ∧ W = w' := fun W => h ▸ rname_any tx W hm
theorem name_no {tx : ByteArray} (h : nmv tx = false) (hm : tx.size ≤ maxLen) : ∀ W, Calls Tryz.prog 45 #[.string tx] W fun e w' => e = .returned (.bool false) ∧ W = w' := fun W => h ▸ rname_any tx W hm
theorem bin_v {tx : ByteArray} {v : Bool} (h : T.isBinary tx = v) : ∀ W, Calls Tryz.prog 90 #[.string tx] W fun e w' => e = .returned (.bool v) ∧ W = w' := fun W => h ▸ rBinary_any tx W
set_option maxRecDepth 100000 in
set_option maxHeartbeats 4000000 in
theorem ie_any (h : Hd) (k : Fo) (A : Option Addr) (cap : Nat) (w : World) (hn : numIx h) (hcn : k.cnt ≤ 1048576) (hk : Kids (Lt w.heap.size) w A k) (hE : k.All CE) (hB : k.All CBl) : CB' 67 w (nv h A k.len cap) (exOk nmv h k) := by
  have hfl : k.len ≤ 1048576 := Nat.le_trans k.len_le_cnt hcn
  cases he : exprK h.kind with
  | false => exact ie_no h A cap k w he
  | true =>
    obtain ⟨kd, tx, nu, po, tk, tn, rf, up⟩ := h
    simp only [exprK, Bool.or_eq_true, beq_iff_eq] at he
    rcases he with (((((((((((((rfl | rfl) | rfl) | rfl) | rfl) | rfl) | rfl) | rfl) | rfl) | rfl) | rfl) | rfl) | rfl) | rfl) | rfl
    · cases hv : nmv tx with
      | true =>
        by_cases hl : k.len = 1
        · exact ie_28ny nu po tk rf up tn tx A cap k w (Lib.hid hv) (Lib.hid (name_yes hv hn.2)) hl hk (fun h0 k0 e A0 c0 hk0 => by subst e; exact CE.at hE.1 hk0)
        · exact ie_28nl nu po tk rf up tn tx A cap k w (Lib.hid hv) (Lib.hid (name_yes hv hn.2)) hl
      | false => exact ie_28nnf nu po tk rf up tn tx A cap k w (Lib.hid hv) (Lib.hid (name_no hv hn.2))
    · by_cases ht : tx.toList = []
      · obtain rfl := ba_nil ht
        by_cases hl : k.len = 2
        · exact ie_29py nu po tk rf up tn A cap k w hl (exprs_at hE hfl hk)
        · exact ie_29pl nu po tk rf up tn A cap k w hl
      · obtain ⟨t0, t1, t2⟩ := nemp ht
        exact ie_29qf nu po tk rf up tn tx A cap k w (Lib.hid t0) t1 t2
    · by_cases ht : tx.toList = []
      · obtain rfl := ba_nil ht
        cases k with
        | nil => exact ie_30l nu po tk rf up tn A cap w
        | cons a b c => exact ie_30y nu po tk rf up tn A cap _ w (by simp only [Fo.len]; omega) (exprs_at hE hfl hk)
      · obtain ⟨t0, t1, t2⟩ := nemp ht
        exact ie_30f nu po tk rf up tn tx A cap k w (Lib.hid t0) t1 t2
    · by_cases hu : tx.toList = [45]
      · obtain rfl : tx = ⟨#[45]⟩ := by rw [ByteArray.toList_eq] at hu; exact ByteArray.ext (Array.toList_inj.1 hu)
        by_cases hl : k.len = 1
        · exact ie_31uy nu po tk rf up tn A cap k w hl hk (fun h0 k0 e A0 c0 hk0 => by subst e; exact CE.at hE.1 hk0)
        · exact ie_31ul nu po tk rf up tn A cap k w hl
      · by_cases hv : tx.toList = [33]
        · obtain rfl : tx = ⟨#[33]⟩ := by rw [ByteArray.toList_eq] at hv; exact ByteArray.ext (Array.toList_inj.1 hv)
          by_cases hl : k.len = 1
          · exact ie_31vy nu po tk rf up tn A cap k w hl hk (fun h0 k0 e A0 c0 hk0 => by subst e; exact CE.at hE.1 hk0)
          · exact ie_31vl nu po tk rf up tn A cap k w hl
        · exact ie_31wf nu po tk rf up tn tx A cap k w (Lib.hid (by rw [ByteArray.toList_eq] at hu hv; simp [hu, hv])) (by simpa using hu) (by simpa using hv)
    · cases hv : T.isBinary tx with
      | true =>
        by_cases hl : k.len = 2
        · exact ie_32by nu po tk rf up tn tx A cap k w (Lib.hid hv) (Lib.hid (bin_v hv)) hl (exprs_at hE hfl hk)
        · exact ie_32bl nu po tk rf up tn tx A cap k w (Lib.hid hv) (Lib.hid (bin_v hv)) hl
      | false => exact ie_32bbf nu po tk rf up tn tx A cap k w (Lib.hid hv) (Lib.hid (bin_v hv))
    · by_cases ht : tx.toList = []
      · obtain rfl := ba_nil ht
        by_cases hl : k.len = 1
        · exact ie_33py nu po tk rf up tn A cap k w hl hk (fun h0 k0 e A0 c0 hk0 => by subst e; exact CE.at hE.1 hk0)
        · exact ie_33pl nu po tk rf up tn A cap k w hl
      · obtain ⟨t0, t1, t2⟩ := nemp ht
        exact ie_33qf nu po tk rf up tn tx A cap k w (Lib.hid t0) t1 t2
    · by_cases ht : tx.toList = []
      · obtain rfl := ba_nil ht
        by_cases hl : k.len = 1
        · exact ie_35py nu po tk rf up tn A cap k w hl hk (fun h0 k0 e A0 c0 hk0 => by subst e; exact CE.at hE.1 hk0)
        · exact ie_35pl nu po tk rf up tn A cap k w hl
      · obtain ⟨t0, t1, t2⟩ := nemp ht
        exact ie_35qf nu po tk rf up tn tx A cap k w (Lib.hid t0) t1 t2
    · by_cases ht : tx.toList = []
      · obtain rfl := ba_nil ht
        by_cases hl : k.len = 1
        · exact ie_36py nu po tk rf up tn A cap k w hl hk (fun h0 k0 e A0 c0 hk0 => by subst e; exact CE.at hE.1 hk0)
        · exact ie_36pl nu po tk rf up tn A cap k w hl
      · obtain ⟨t0, t1, t2⟩ := nemp ht
        exact ie_36qf nu po tk rf up tn tx A cap k w (Lib.hid t0) t1 t2
    · by_cases ht : tx.toList = []
      · obtain rfl := ba_nil ht
        by_cases hl : k.len = 1
        · exact ie_37py nu po tk rf up tn A cap k w hl hk (fun h0 k0 e A0 c0 hk0 => by subst e; exact CE.at hE.1 hk0)
        · exact ie_37pl nu po tk rf up tn A cap k w hl
      · obtain ⟨t0, t1, t2⟩ := nemp ht
        exact ie_37qf nu po tk rf up tn tx A cap k w (Lib.hid t0) t1 t2
    · exact ie_27 nu po tk rf up tn tx A cap k w hn.2
    · exact ie_34 nu po tk rf up tn tx A cap k w hn.2
    · exact ie_24 nu po tk rf up tn tx A cap k w
    · exact ie_25 nu po tk rf up tn tx A cap k w
    · exact ie_26 nu po tk rf up tn tx A cap k w
    · by_cases ht : tx.toList = []
      · obtain rfl := ba_nil ht
        by_cases hl : k.len = 1
        · exact ie_38py nu po tk rf up tn A cap k w hl hk (fun h0 k0 e A0 c0 hk0 => by subst e; exact CBl.at hB.1 hk0)
        · exact ie_38pl nu po tk rf up tn A cap k w hl
      · obtain ⟨t0, t1, t2⟩ := nemp ht
        exact ie_38qf nu po tk rf up tn tx A cap k w (Lib.hid t0) t1 t2
set_option maxRecDepth 100000 in
set_option maxHeartbeats 4000000 in
theorem kind_any (x : Int) (hx : exprK x = true) (h : Hd) (k : Fo) (A : Option Addr) (cap : Nat) (w : World) (hC : At 67 w (nv h A k.len cap) (exOk nmv h k)) : Calls Tryz.prog 93 #[nv h A k.len cap, .int .i64 x] w fun e w' => e = .returned (.bool (kdOk nmv x h k)) ∧ Below w.heap.size w w' := by
  by_cases hkx : h.kind = x
  · have HX : Hid (exOk nmv h k = kdOk nmv x h k) := Lib.hid (by unfold exOk kdOk; rw [hkx, hx]; simp)
    obtain ⟨v, hv⟩ : ∃ v, exOk nmv h k = v := ⟨_, rfl⟩
    rw [hv] at HX hC
    have HC := Lib.hid hC
    obtain ⟨n, hn⟩ : ∃ n, k.len = n := ⟨_, rfl⟩
    rw [hn] at HC ⊢
    have e : (h.kind == x) = true := by simpa using hkx
    clear hv hC hn hkx hx
    go_enter Tryz.func93, Tryz.ntmps93
    go_wp2_with fail
    refine (HC.out _ (b1 w _)).mono ?_
    rintro e V ⟨rfl, hb⟩
    have HB := Lib.hid ((b1 w _).trans (hb.mono (by simp)))
    clear hb
    go_wp2
    go_ret
    exact ⟨ret_bool HX.out, HB.out⟩
  · have HX : Hid (kdOk nmv x h k = false) := Lib.hid (by unfold kdOk; simp [hkx])
    obtain ⟨n, hn⟩ : ∃ n, k.len = n := ⟨_, rfl⟩
    rw [hn]
    have e : (h.kind == x) = false := by simpa using hkx
    clear hn hkx hx hC
    go_enter Tryz.func93, Tryz.ntmps93
    go_wp2
    go_ret
    exact ⟨ret_bool HX.out.symm, b1 _ _⟩
theorem kdq (x : Int) {h : Hd} {k : Fo} {l : List Pl} {t n : Bool} (e : h.kind = x) (p : places h.kind k.len = l) (ht : textFits nmv h = t) (hn : numFits h = n) : kdOk nmv x h k = (t && n && (fits l k && okF nmv k)) := by
  unfold kdOk; rw [okT_of nmv p, ht, hn]; simp [e]
theorem kd10 (nu po tk rf up : Int) (tn tx : ByteArray) (k : Fo) : kdOk nmv 10 ⟨10, tx, nu, po, tk, tn, rf, up⟩ k = ((tx.data.toList == []) && true && allB (stOk nmv) k) := by
  rw [kdq 10 (l := List.replicate k.len isS) rfl rfl rfl rfl, fitv_rep]; rfl
theorem kd_no {x : Int} {h : Hd} (e : ¬ h.kind = x) (k : Fo) : kdOk nmv x h k = false := by unfold kdOk; simp [e]
set_option maxRecDepth 100000 in
set_option maxHeartbeats 4000000 in
theorem bl_no (x : Int) (h : Hd) (A : Option Addr) (cap : Nat) (k : Fo) (w : World) (e : (h.kind == 10) = false) : CB' 50 w (nv h A k.len cap) (kdOk nmv 10 h k) := by
  have HX : Hid (kdOk nmv 10 h k = false) := Lib.hid (kd_no (by simpa using e) k)
  obtain ⟨n, hn⟩ : ∃ n, k.len = n := ⟨_, rfl⟩
  rw [hn]
  have e2 : (h.kind != 10) = true := by simpa using e
  clear hn
  go_enter Tryz.func50, Tryz.ntmps50
  go_wp2
  go_ret
  exact ⟨ret_bool HX.out.symm, b1 _ _⟩
set_option maxRecDepth 100000 in
set_option maxHeartbeats 4000000 in
theorem bl_text (nu po tk rf up : Int) (tn : ByteArray) (tx : ByteArray) (A : Option Addr) (cap : Nat) (k : Fo) (w : World) (HT : Hid ((tx.data.toList == []) = false)) (t1 : (tx.toList == []) = false) (t2 : tx.toList.isEmpty = false) : CB' 50 w (.agg #[.int .i64 10, .string tx, .int .i64 nu, .int .i64 po, .slice A k.len cap, .int .i64 tk, .string tn, .int .i64 rf, .int .i64 up]) (kdOk nmv 10 ⟨10, tx, nu, po, tk, tn, rf, up⟩ k) := by
  have HX : Hid (kdOk nmv 10 ⟨10, tx, nu, po, tk, tn, rf, up⟩ k = false) := Lib.hid (by rw [kd10, HT.out, Bool.false_and, Bool.false_and])
  obtain ⟨n, hn⟩ : ∃ n, k.len = n := ⟨_, rfl⟩
  rw [hn]
  clear hn
  go_enter Tryz.func50, Tryz.ntmps50
  go_wp2
  go_ret
  exact ⟨ret_bool HX.out.symm, b1 _ _⟩
set_option maxRecDepth 100000 in
set_option maxHeartbeats 4000000 in
theorem bl_yes (nu po tk rf up : Int) (tn : ByteArray) (A : Option Addr) (cap : Nat) (F : Fo) (w : World) (hfl : F.len ≤ 1048576) (hk : Kids (Lt w.heap.size) w A F) (hE : F.All CS) : CB' 50 w (.agg #[.int .i64 10, .string ⟨#[]⟩, .int .i64 nu, .int .i64 po, .slice A F.len cap, .int .i64 tk, .string tn, .int .i64 rf, .int .i64 up]) (kdOk nmv 10 ⟨10, ⟨#[]⟩, nu, po, tk, tn, rf, up⟩ F) := by
  have HX : Hid (kdOk nmv 10 ⟨10, ⟨#[]⟩, nu, po, tk, tn, rf, up⟩ F = allB (stOk nmv) F) := Lib.hid (by rw [kd10]; rfl)
  have HS := Lib.hid (Rest.start hk)
  have HE : Hid (F.All fun h k => ∀ A cap, Kids (Lt w.heap.size) w A k → At 69 w (nv h A k.len cap) (stOk nmv h k)) := Lib.hid (all_CS F hE)
  have HB0 : Hid (Below w.heap.size w (w.alloc (.cells #[.int .i64 10, .string ⟨#[]⟩, .int .i64 nu, .int .i64 po, .slice A F.len cap, .int .i64 tk, .string tn, .int .i64 rf, .int .i64 up] 26))) := Lib.hid (b1 w _)
  have HZ0 : Hid (w.heap.size < (w.alloc (.cells #[.int .i64 10, .string ⟨#[]⟩, .int .i64 nu, .int .i64 po, .slice A F.len cap, .int .i64 tk, .string tn, .int .i64 rf, .int .i64 up] 26)).heap.size) := Lib.hid (by simp)
  have h4 : (w.alloc (.cells #[.int .i64 10, .string ⟨#[]⟩, .int .i64 nu, .int .i64 po, .slice A F.len cap, .int .i64 tk, .string tn, .int .i64 rf, .int .i64 up] 26)).cell? ⟨w.heap.size, 4, none⟩ = some (.slice A F.len cap) := by
    have := heap_alloc_new w (.cells #[.int .i64 10, .string ⟨#[]⟩, .int .i64 nu, .int .i64 po, .slice A F.len cap, .int .i64 tk, .string tn, .int .i64 rf, .int .i64 up] 26)
    simp only [World.cell?, this]; rfl
  have H4 := Lib.hid h4
  clear hk hE h4
  go_enter Tryz.func50, Tryz.ntmps50
  go_wp2
  go_loopw [3] (fun ix wr => ∃ (i : Nat) (R : Fo), ix = .int .i64 (i : Int) ∧ Rest (Lt w.heap.size) w A F i R ∧ (allB (stOk nmv) F = allB (stOk nmv) R) ∧ (R.All fun h k => ∀ A cap, Kids (Lt w.heap.size) w A k → At 69 w (nv h A k.len cap) (stOk nmv h k)) ∧ Below w.heap.size w wr ∧ w.heap.size < wr.heap.size ∧ wr.cell? ⟨w.heap.size, 4, none⟩ = some (.slice A F.len cap)) (fun ix _ => F.len - (intOf ix).toNat)
  case atStart => exact ⟨0, F, rfl, HS.out, rfl, HE.out, HB0.out, HZ0.out, H4.out⟩
  case round =>
    obtain ⟨i, R, rfl, hr, hq, hP, hb, hz, h4⟩ := hrel
    have HQ := Lib.hid hq
    have HB := Lib.hid hb
    clear HS HE hq
    cases R with
    | nil =>
      have hi := hr.stop
      subst hi
      clear hr hP hb
      go_wp2
      go_ret
      exact ⟨ret_bool (by rw [HX.out, HQ.out]; rfl), HB.out⟩
    | cons h' k' r =>
      obtain ⟨g, o, A', cap', rfl, ⟨c0, c1, c2, c3, c4, c5, c6, c7, c8⟩, hkc, hk', hr', hi1, hg⟩ := (hr.below hb (Nat.le_refl _)).next
      have hk2 := hr.next
      obtain ⟨g2, o2, A2, cap2, e2, h92, _, hk2', hr2, _, _⟩ := hk2
      cases e2
      have eA : A' = A2 ∧ cap' = cap2 := by
        have e4 := c4
        rw [(hb.cell (p := ⟨g, o + i * 9 + 4, none⟩) (by show g < _; exact hg)), h92.c4] at e4
        cases e4; exact ⟨rfl, rfl⟩
      obtain ⟨rfl, rfl⟩ := eA
      obtain ⟨p1, p2⟩ := hP
      have HC := Lib.hid (p1 A' cap' hk2' wr hb)
      have HP2 := Lib.hid p2
      have HR2 := Lib.hid hr2
      obtain ⟨v, hv⟩ : ∃ v, stOk nmv h' k' = v := ⟨_, rfl⟩
      have HV := Lib.hid hv
      rw [hv] at HC
      obtain ⟨l, hl⟩ : ∃ l, k'.len = l := ⟨_, rfl⟩
      rw [hl] at HC c4
      have hj : (i : Int) < (F.len : Int) := by omega
      have hj0 : (0 : Int) ≤ (i : Int) := by omega
      clear hr hb hr' hk' hkc hg h92 hk2' hr2 p1 p2 hv hl
      go_wp2_with fail
      refine HC.out.mono ?_
      rintro e V ⟨rfl, hb⟩
      have HB2 := Lib.hid (HB.out.trans (hb.mono HB.out.size))
      have HZ2 : Hid (w.heap.size < V.heap.size) := Lib.hid (Nat.lt_of_lt_of_le hz hb.size)
      have H42 := Lib.hid ((hb.cell (p := ⟨w.heap.size, 4, none⟩) hz).trans h4)
      clear hb c0 c1 c2 c3 c4 c5 c6 c7 c8
      cases v with
      | true =>
        go_wp2_with fail
        go_roundw
        case rel => exact ⟨i + 1, r, by go_num, HR2.out, by rw [HQ.out]; show (stOk nmv h' k' && _) = _; rw [HV.out]; rfl, HP2.out, HB2.out, HZ2.out, H42.out⟩
        case measure => simp [intOf]; omega
      | false =>
        go_wp2
        go_ret
        exact ⟨ret_bool (by rw [HX.out, HQ.out]; show _ = (stOk nmv h' k' && _); rw [HV.out]; rfl), HB2.out⟩
theorem bl_any (h : Hd) (k : Fo) (A : Option Addr) (cap : Nat) (w : World) (hcn : k.cnt ≤ 1048576) (hk : Kids (Lt w.heap.size) w A k) (hS : k.All CS) : CB' 50 w (nv h A k.len cap) (kdOk nmv 10 h k) := by
  by_cases e : h.kind = 10
  · obtain ⟨kd, tx, nu, po, tk, tn, rf, up⟩ := h
    obtain rfl : kd = 10 := e
    by_cases ht : tx.toList = []
    · obtain rfl := ba_nil ht
      exact bl_yes nu po tk rf up tn A cap k w (Nat.le_trans k.len_le_cnt hcn) hk hS
    · obtain ⟨t0, t1, t2⟩ := nemp ht
      exact bl_text nu po tk rf up tn tx A cap k w (Lib.hid t0) t1 t2
  · exact bl_no 0 h A cap k w (by simpa using e)
end Go.Proofs.YticbcnhbpbaocaaGreatDoor
