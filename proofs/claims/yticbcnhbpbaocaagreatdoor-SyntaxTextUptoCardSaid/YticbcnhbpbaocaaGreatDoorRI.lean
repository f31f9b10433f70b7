/-
  The walks of the specification's isSelect and isStmt; all together; fields, isDecl, Valid.
-/
import Derived.Test.YticbcnhbpbaocaaGreatDoorRH
set_option linter.all false
namespace Go.Proofs.YticbcnhbpbaocaaGreatDoor
open Go.RowKit T T.Fo
theorem kd22 (nu po tk rf up : Int) (tn tx : ByteArray) (k : Fo) : kdOk nmv 22 ⟨22, tx, nu, po, tk, tn, rf, up⟩ k = ((tx.data.toList == []) && true && allB (kdOk nmv 23) k) := by
  rw [kdq 22 (l := List.replicate k.len (T.one [23])) rfl rfl rfl rfl, fitv_rep, one_kd]; rfl
theorem kd23 {h : Hd} (e : h.kind = 23) (k : Fo) : kdOk nmv 23 h k = ((h.text.data.toList == []) && true && two2 (coOk nmv) (kdOk nmv 10) k) := by
  rw [kdq 23 (l := [opt commT, T.one [10]]) e (by rw [e]; try rfl) (by unfold textFits namedK; rw [e]; try rfl) (by unfold numFits; rw [e]; try rfl), fitv_two, one_kd]; rfl
set_option maxRecDepth 100000 in
set_option maxHeartbeats 4000000 in
theorem sl_any (nu po tk rf up : Int) (tn : ByteArray) (tx : ByteArray) (A : Option Addr) (cap : Nat) (F : Fo) (w : World) (hfl : F.len ≤ 1048576) (hk : Kids (Lt w.heap.size) w A F) (hC : F.All fun _ k => k.All CC ∧ k.All CBl) : CB' 92 w (.agg #[.int .i64 22, .string tx, .int .i64 nu, .int .i64 po, .slice A F.len cap, .int .i64 tk, .string tn, .int .i64 rf, .int .i64 up]) (kdOk nmv 22 ⟨22, tx, nu, po, tk, tn, rf, up⟩ F) := by
  have HX := Lib.hid (kd22 nu po tk rf up tn tx F)
  have HS := Lib.hid (Rest.start hk)
  have HE := Lib.hid hC
  have HB0 : Hid (Below w.heap.size w (w.alloc (.cells #[.int .i64 22, .string tx, .int .i64 nu, .int .i64 po, .slice A F.len cap, .int .i64 tk, .string tn, .int .i64 rf, .int .i64 up] 26))) := Lib.hid (b1 w _)
  have HZ0 : Hid (w.heap.size < (w.alloc (.cells #[.int .i64 22, .string tx, .int .i64 nu, .int .i64 po, .slice A F.len cap, .int .i64 tk, .string tn, .int .i64 rf, .int .i64 up] 26)).heap.size) := Lib.hid (by simp)
  have hn4 := heap_alloc_new w (.cells #[.int .i64 22, .string tx, .int .i64 nu, .int .i64 po, .slice A F.len cap, .int .i64 tk, .string tn, .int .i64 rf, .int .i64 up] 26)
  have H4 : Hid ((w.alloc (.cells #[.int .i64 22, .string tx, .int .i64 nu, .int .i64 po, .slice A F.len cap, .int .i64 tk, .string tn, .int .i64 rf, .int .i64 up] 26)).cell? ⟨w.heap.size, 4, none⟩ = some (.slice A F.len cap) ∧ (w.alloc (.cells #[.int .i64 22, .string tx, .int .i64 nu, .int .i64 po, .slice A F.len cap, .int .i64 tk, .string tn, .int .i64 rf, .int .i64 up] 26)).cell? ⟨w.heap.size, 1, none⟩ = some (.string tx)) := Lib.hid ⟨by simp only [World.cell?, hn4]; rfl, by simp only [World.cell?, hn4]; rfl⟩
  clear hk hC hn4
  go_enter Tryz.func92, Tryz.ntmps92
  go_wp2
  go_loopw [3] (fun ix wr => ∃ (i : Nat) (R : Fo), ix = .int .i64 (i : Int) ∧ Rest (Lt w.heap.size) w A F i R ∧ (allB (kdOk nmv 23) F = allB (kdOk nmv 23) R) ∧ (R.All fun _ k => k.All CC ∧ k.All CBl) ∧ Below w.heap.size w wr ∧ w.heap.size < wr.heap.size ∧ wr.cell? ⟨w.heap.size, 4, none⟩ = some (.slice A F.len cap) ∧ wr.cell? ⟨w.heap.size, 1, none⟩ = some (.string tx)) (fun ix _ => F.len - (intOf ix).toNat)
  case atStart => exact ⟨0, F, rfl, HS.out, rfl, HE.out, HB0.out, HZ0.out, H4.out.1, H4.out.2⟩
  case round =>
    obtain ⟨i, R, rfl, hr, hq, hP, hb, hz, h4, h5⟩ := hrel
    have HQ := Lib.hid hq
    have HBW := Lib.hid hb
    have HZW := Lib.hid hz
    have H45 := Lib.hid (And.intro h4 h5)
    clear HS HE hq
    cases R with
    | nil =>
      have hi := hr.stop
      subst hi
      clear hr hP hb
      have e1 : allB (kdOk nmv 23) .nil = true := rfl
      go_wp2
      go_ret
      exact ⟨ret_bool (by rw [HX.out, HQ.out, e1, emp_iff]; simp), HBW.out⟩
    | cons h' k' r =>
      obtain ⟨g, o, A', cap', rfl, ⟨c0, c1, c2, c3, c4, c5, c6, c7, c8⟩, hkc, hk', _, hi1, hg⟩ := (hr.below hb (Nat.le_refl _)).next
      have HR2 := Lib.hid hr.tail
      obtain ⟨p1, p2⟩ := hP
      have HP2 := Lib.hid p2
      have hkw : Kids (Lt wr.heap.size) wr A' k' := hk'.mono (Nat.le_of_lt hz)
      have hj : (i : Int) < (F.len : Int) := by omega
      have hj0 : (0 : Int) ≤ (i : Int) := by omega
      have hgw : g < wr.heap.size := by have : g < w.heap.size := hg; omega
      have hbad : kdOk nmv 23 h' k' = false → kdOk nmv 22 ⟨22, tx, nu, po, tk, tn, rf, up⟩ F = false := fun hx => by rw [HX.out, HQ.out]; show (_ && _ && (kdOk nmv 23 h' k' && _)) = false; rw [hx]; simp
      have HBAD := Lib.hid hbad
      have HBA : Hid (∀ o, Below w.heap.size w (wr.alloc o)) := Lib.hid fun o => hb.alloc (Nat.le_of_lt hz) o
      clear hr hb hk' hkc hg p2 hbad
      by_cases e23 : h'.kind = 23
      · have k23 : (h'.kind == 23) = true := by simpa using e23
        have k23' : (h'.kind != 23) = false := by simpa using e23
        by_cases ht : h'.text.toList = []
        · have t0 : (h'.text.toList == []) = true := by simpa using ht
          have t1 : h'.text.toList.isEmpty = true := by simpa using ht
          by_cases hl : k'.len = 2
          · obtain ⟨h0, k0, h1, k1, rfl⟩ := is2 hl
            obtain ⟨g2, o2, A0, q0, A1, q1, rfl, ⟨d0, d1, d2, d3, d4, d5, d6, d7, d8⟩, hk0, ⟨y0, y1, y2, y3, y4, y5, y6, y7, y8⟩, hk1, hg2⟩ := kid2 hkw
            have H1 := Lib.hid (CC.at (cap := q0) p1.1.1 hk0)
            have H2 := Lib.hid (CBl.at (cap := q1) p1.2.2.1 hk1)
            obtain ⟨a, ha⟩ : ∃ v, coOk nmv h0 k0 = v := ⟨_, rfl⟩
            obtain ⟨b, hb⟩ : ∃ v, kdOk nmv 10 h1 k1 = v := ⟨_, rfl⟩
            have HK : Hid (kdOk nmv 23 h' (.cons h0 k0 (.cons h1 k1 .nil)) = (a && b)) := Lib.hid (by
              rw [kd23 e23, emp_iff, t1, ← ha, ← hb]
              rfl)
            rw [ha] at H1
            rw [hb] at H2
            obtain ⟨n0, hn0⟩ : ∃ n, k0.len = n := ⟨_, rfl⟩
            obtain ⟨n1, hn1⟩ : ∃ n, k1.len = n := ⟨_, rfl⟩
            rw [hn0] at H1 d4
            rw [hn1] at H2 y4
            have hl2 : (Fo.cons h0 k0 (.cons h1 k1 .nil)).len = 2 := rfl
            rw [hl2] at c4
            have hgn : ¬ g2 = wr.heap.size := by omega
            have hg1 : g2 < wr.heap.size + 1 := by omega
            have HB : Hid (Below wr.heap.size wr (wr.alloc (.cells #[.int .i64 h'.kind, .string h'.text, .int .i64 h'.num, .int .i64 h'.pos, .slice (some ⟨g2, o2, none⟩) 2 cap', .int .i64 h'.tk, .string h'.tn, .int .i64 h'.ref, .int .i64 h'.up] 26))) := Lib.hid (b1 wr _)
            have HZ : Hid (wr.heap.size < (wr.alloc (.cells #[.int .i64 h'.kind, .string h'.text, .int .i64 h'.num, .int .i64 h'.pos, .slice (some ⟨g2, o2, none⟩) 2 cap', .int .i64 h'.tk, .string h'.tn, .int .i64 h'.ref, .int .i64 h'.up] 26)).heap.size) := Lib.hid (by simp)
            clear ha hb hn0 hn1 hl2 hkw hk0 hk1 p1 e23 ht hl
            cases a <;> cases b <;>
            · go_wp2_with (first
                | (go_at_call 113; (with_reducible refine (H1.out _ HB.out).mono ?_); rintro e w' ⟨rfl, hb⟩; have HB := Lib.hid (HB.out.trans (hb.mono HB.out.size)); obtain ⟨hc, hf⟩ := bcell hb; have hz : wr.heap.size < w'.heap.size := by { have h1 := HZ.out; have h2 := hb.size; omega }; have hgz : g2 < w'.heap.size := (by omega); have HZ := Lib.hid hz; clear hb)
                | (go_at_call 50; (with_reducible refine (H2.out _ HB.out).mono ?_); rintro e w' ⟨rfl, hb⟩; have HB := Lib.hid (HB.out.trans (hb.mono HB.out.size)); obtain ⟨hc, hf⟩ := bcell hb; have hz : wr.heap.size < w'.heap.size := by { have h1 := HZ.out; have h2 := hb.size; omega }; have hgz : g2 < w'.heap.size := (by omega); have HZ := Lib.hid hz; clear hb))
              first
                | (go_ret
                   exact ⟨ret_bool (HBAD.out HK.out).symm, HBW.out.trans (HB.out.mono (Nat.le_of_lt HZW.out))⟩)
                | (have HJ := Lib.hid (HBW.out.trans (HB.out.mono (Nat.le_of_lt HZW.out)))
                   have HC4 := Lib.hid ((HB.out.cell (p := ⟨w.heap.size, 4, none⟩) HZW.out).trans H45.out.1)
                   have HC5 := Lib.hid ((HB.out.cell (p := ⟨w.heap.size, 1, none⟩) HZW.out).trans H45.out.2)
                   have HZ9 := Lib.hid (Nat.lt_of_lt_of_le HZW.out HB.out.size)
                   go_roundw
                   case rel => exact ⟨i + 1, r, by go_num, HR2.out, by rw [HQ.out]; show (kdOk nmv 23 h' _ && _) = _; rw [HK.out]; rfl, HP2.out, HJ.out, HZ9.out, HC4.out, HC5.out⟩
                   case measure => simp [intOf]; omega)
          · have HK : Hid (kdOk nmv 23 h' k' = false) := Lib.hid (by rw [kd23 e23, two2_len hl, Bool.and_false])
            obtain ⟨l, hl2⟩ : ∃ l, k'.len = l := ⟨_, rfl⟩
            rw [hl2] at c4 hl
            have hne : ((l : Int) == 2) = false := by rw [ieq2]; simpa using hl
            have hne2 : ((l : Int) != 2) = true := by rw [bne, hne]; rfl
            clear hkw p1 e23 ht hl hl2
            go_wp2
            go_ret
            exact ⟨ret_bool (HBAD.out HK.out).symm, HBA.out _⟩
        · obtain ⟨t0, t1, t2⟩ := nemp ht
          have HK : Hid (kdOk nmv 23 h' k' = false) := Lib.hid (by rw [kd23 e23, t0, Bool.false_and, Bool.false_and])
          obtain ⟨l, hl2⟩ : ∃ l, k'.len = l := ⟨_, rfl⟩
          rw [hl2] at c4
          clear hkw p1 e23 ht hl2 t0
          go_wp2
          go_ret
          exact ⟨ret_bool (HBAD.out HK.out).symm, HBA.out _⟩
      · have k23 : (h'.kind == 23) = false := by simpa using e23
        have k23' : (h'.kind != 23) = true := by simpa using e23
        have HK : Hid (kdOk nmv 23 h' k' = false) := Lib.hid (kd_no e23 k')
        obtain ⟨l, hl2⟩ : ∃ l, k'.len = l := ⟨_, rfl⟩
        rw [hl2] at c4
        clear hkw p1 e23 hl2
        go_wp2
        go_ret
        exact ⟨ret_bool (HBAD.out HK.out).symm, HBA.out _⟩
set_option maxRecDepth 100000 in
set_option maxHeartbeats 4000000 in
theorem is_any (h : Hd) (k : Fo) (A : Option Addr) (cap : Nat) (w : World) (hn : numIx h) (hF : k.AllH numIx) (hcn : k.cnt ≤ 1048576) (hk : Kids (Lt w.heap.size) w A k) (hE : k.All CE) (hB : k.All CBl) (hI : k.All CI) (hS : k.All CS) (hC : k.All fun _ k => k.All CC ∧ k.All CBl) : CB' 69 w (nv h A k.len cap) (stOk nmv h k) := by
  have hfl : k.len ≤ 1048576 := Nat.le_trans k.len_le_cnt hcn
  cases he : stmtK h.kind with
  | false => exact is_no h A cap k w he
  | true =>
    obtain ⟨kd, tx, nu, po, tk, tn, rf, up⟩ := h
    simp only [stmtK, Bool.or_eq_true, beq_iff_eq] at he
    rcases he with ((((((((((((rfl | rfl) | rfl) | rfl) | rfl) | rfl) | rfl) | rfl) | rfl) | rfl) | rfl) | rfl) | rfl) | rfl
    · exact is_6 nu po tk rf up tn tx A cap k w (fun V hV => va_any _ k A cap V rfl hn hF (kids_at' hk hV) hE)
    · exact is_10 nu po tk rf up tn tx A cap k w (fun V hV => bl_any _ k A cap V hcn (kids_at' hk hV) hS)
    · cases hv : nmv tx with
      | true =>
        by_cases hl : k.len = 1
        · exact is_11ny nu po tk rf up tn tx A cap k w (Lib.hid hv) (Lib.hid (name_yes hv hn.2)) hl hk (fun h0 k0 e A0 c0 hk0 => by subst e; exact CE.at hE.1 hk0)
        · exact is_11nl nu po tk rf up tn tx A cap k w (Lib.hid hv) (Lib.hid (name_yes hv hn.2)) hl
      | false => exact is_11nnf nu po tk rf up tn tx A cap k w (Lib.hid hv) (Lib.hid (name_no hv hn.2))
    · by_cases ht : tx.toList = []
      · obtain rfl := ba_nil ht
        by_cases hl : k.len = 2
        · exact is_12py nu po tk rf up tn A cap k w hl (exprs_at hE hfl hk)
        · exact is_12pl nu po tk rf up tn A cap k w hl
      · obtain ⟨t0, t1, t2⟩ := nemp ht
        exact is_12qf nu po tk rf up tn tx A cap k w (Lib.hid t0) t1 t2
    · by_cases ht : tx.toList = []
      · obtain rfl := ba_nil ht
        by_cases hl : k.len = 1
        · exact is_13py nu po tk rf up tn A cap k w hl hk (fun h0 k0 e A0 c0 hk0 => by subst e; exact ⟨kind_at rfl hE.1 hk0, kind_at rfl hE.1 hk0⟩)
        · exact is_13pl nu po tk rf up tn A cap k w hl
      · obtain ⟨t0, t1, t2⟩ := nemp ht
        exact is_13qf nu po tk rf up tn tx A cap k w (Lib.hid t0) t1 t2
    · by_cases ht : tx.toList = []
      · obtain rfl := ba_nil ht
        by_cases hl : k.len = 1
        · exact is_14py nu po tk rf up tn A cap k w hl hk (fun h0 k0 e A0 c0 hk0 => by subst e; exact kind_at rfl hE.1 hk0)
        · exact is_14pl nu po tk rf up tn A cap k w hl
      · obtain ⟨t0, t1, t2⟩ := nemp ht
        exact is_14qf nu po tk rf up tn tx A cap k w (Lib.hid t0) t1 t2
    · by_cases ht : tx.toList = []
      · obtain rfl := ba_nil ht
        by_cases hl : k.len = 1
        · exact is_15py nu po tk rf up tn A cap k w hl hk (fun h0 k0 e A0 c0 hk0 => by subst e; exact kind_at rfl hE.1 hk0)
        · exact is_15pl nu po tk rf up tn A cap k w hl
      · obtain ⟨t0, t1, t2⟩ := nemp ht
        exact is_15qf nu po tk rf up tn tx A cap k w (Lib.hid t0) t1 t2
    · by_cases ht : tx.toList = []
      · obtain rfl := ba_nil ht
        by_cases hl : k.len = 2
        · exact is_16py nu po tk rf up tn A cap k w hl (exprs_at hE hfl hk)
        · exact is_16pl nu po tk rf up tn A cap k w hl
      · obtain ⟨t0, t1, t2⟩ := nemp ht
        exact is_16qf nu po tk rf up tn tx A cap k w (Lib.hid t0) t1 t2
    · by_cases ht : tx.toList = []
      · obtain rfl := ba_nil ht
        by_cases hl : k.len = 1
        · exact is_17py nu po tk rf up tn A cap k w hl hk (fun h0 k0 e A0 c0 hk0 => by subst e; exact CE.at hE.1 hk0)
        · exact is_17pl nu po tk rf up tn A cap k w hl
      · obtain ⟨t0, t1, t2⟩ := nemp ht
        exact is_17qf nu po tk rf up tn tx A cap k w (Lib.hid t0) t1 t2
    · by_cases ht : tx.toList = []
      · obtain rfl := ba_nil ht
        by_cases hl : k.len = 1
        · exact is_21py nu po tk rf up tn A cap k w hl hk (fun h0 k0 e A0 c0 hk0 => by subst e; exact CE.at hE.1 hk0)
        · exact is_21pl nu po tk rf up tn A cap k w hl
      · obtain ⟨t0, t1, t2⟩ := nemp ht
        exact is_21qf nu po tk rf up tn tx A cap k w (Lib.hid t0) t1 t2
    · exact is_18 nu po tk rf up tn tx A cap k w (fun V hV => if_any _ k A cap V (kids_at' hk hV) hE hB hI)
    · by_cases ht : tx.toList = []
      · obtain rfl := ba_nil ht
        by_cases hl : k.len = 2
        · exact is_19y nu po tk rf up tn A cap k w hl hk hE hB
        · exact is_19l nu po tk rf up tn A cap k w hl
      · obtain ⟨t0, t1, t2⟩ := nemp ht
        exact is_19f nu po tk rf up tn tx A cap k w (Lib.hid t0) t1 t2
    · by_cases ht : tx.toList = []
      · obtain rfl := ba_nil ht
        by_cases hl : k.len ≤ 1
        · exact is_20y nu po tk rf up tn A cap k w hl (exprs_at hE hfl hk)
        · exact is_20l nu po tk rf up tn A cap k w hl
      · obtain ⟨t0, t1, t2⟩ := nemp ht
        exact is_20f nu po tk rf up tn tx A cap k w (Lib.hid t0) t1 t2
    · exact is_22 nu po tk rf up tn tx A cap k w (fun V hV => sl_any nu po tk rf up tn tx A cap k V hfl (kids_at' hk hV) hC)
/-- All contracts at a tree. -/
def Five (h : Hd) (k : Fo) : Prop := CE h k ∧ CBl h k ∧ CI h k ∧ CS h k ∧ CC h k
def PV (h : Hd) (k : Fo) : Prop := Ok h k → Five h k ∧ k.All Five
theorem pv_all {h : Hd} : ∀ F : Fo, F.All PV → Ok h F → F.All Five ∧ F.All (fun _ k => k.All Five) := by
  intro F
  induction F with
  | nil => intro _ _; exact ⟨trivial, trivial⟩
  | cons h' k' r _ ih =>
    intro ⟨a, b⟩ hO
    obtain ⟨o1, o2⟩ := hO.kid
    obtain ⟨x, y⟩ := a o1
    obtain ⟨u, v⟩ := ih b o2
    exact ⟨⟨x, u⟩, ⟨y, v⟩⟩
theorem pv_any (h : Hd) (k : Fo) : PV h k := by
  refine Fo.ind (P := PV) ?_ h k
  clear h k
  intro h k ih hO
  obtain ⟨hA, hA2⟩ := pv_all k ih hO
  obtain ⟨hn, hF, hcn⟩ := hO
  have hE : k.All CE := all_imp' (fun _ _ q => q.1) k hA
  have hB : k.All CBl := all_imp' (fun _ _ q => q.2.1) k hA
  have hI : k.All CI := all_imp' (fun _ _ q => q.2.2.1) k hA
  have hS : k.All CS := all_imp' (fun _ _ q => q.2.2.2.1) k hA
  have hC : k.All fun _ k => k.All CC ∧ k.All CBl := all_imp' (fun _ k' q => ⟨all_imp' (fun _ _ q => q.2.2.2.2) k' q, all_imp' (fun _ _ q => q.2.1) k' q⟩) k hA2
  have sS : CS h k := fun A cap w hk => is_any h k A cap w hn hF hcn hk hE hB hI hS hC
  exact ⟨⟨fun A cap w hk => ie_any h k A cap w hn hcn hk hE hB, fun A cap w hk => bl_any h k A cap w hcn hk hS, fun A cap w hk => if_any h k A cap w hk hE hB hI, sS, co_any h k sS⟩, hA⟩
theorem five_any (h : Hd) (k : Fo) (hO : Ok h k) : Five h k := (pv_any h k hO).1
end Go.Proofs.YticbcnhbpbaocaaGreatDoor
