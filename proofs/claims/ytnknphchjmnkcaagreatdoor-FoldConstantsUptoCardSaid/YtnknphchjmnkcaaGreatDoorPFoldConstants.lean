/-
  Proved: for every tree that is passed in, the call of FoldConstants returns true, and what was passed in reads afterwards as it read before. Conditions: what is read is of bulk at most 1048576 (the second form); the six listed package-level variables (the tables of math/bits and of strconv, the two errors of strconv, the operators of scan) hold at the call what their initialisers lay; the card ties that to the text of the program.
-/
import Derived.Test.YtnknphchjmnkcaaGreatDoorG
import Derived.Test.YtnknphchjmnkcaaGreatDoorFU
import Derived.Deep.RegionHeld3
set_option linter.all false
namespace Go.Proofs.YtnknphchjmnkcaaGreatDoor
open Go.RowKit T T.Fo
def txt (h : Hd) : Prop := h.text.size ≤ maxLen
theorem tx0 : (⟨#[]⟩ : ByteArray).size ≤ maxLen := by decide
theorem nth_txt {K : Fo} (hK : K.AllH txt) : ∀ i, i < K.len → txt (nthF K i).1 ∧ (nthF K i).2.AllH txt := nthF_all hK
theorem bld_txt {h : Hd} {K : Fo} (hr : txt h) (hK : K.AllH txt) (h3 : h.kind = 18 → K.len = 3) : txt (bld h K).1 ∧ (bld h K).2.AllH txt := by
  unfold bld
  by_cases e : h.kind = 18
  · rw [if_pos e]
    have l3 := h3 e
    exact condT_ind (P := fun x => txt x.1 ∧ x.2.AllH txt) (fun _ => ⟨tx0, hK⟩) (nth_txt hK 1 (by omega)) ⟨tx0, trivial⟩ (fun _ => nth_txt hK 2 (by omega))
  · rw [if_neg e]
    split
    · unfold shortH shortK
      by_cases x : (evT h K).v < 0
      · rw [if_pos x, if_pos x]
        exact ⟨show (⟨#[45]⟩ : ByteArray).size ≤ maxLen by decide, tx0, trivial, trivial⟩
      · rw [if_neg x, if_neg x]
        exact ⟨tx0, trivial⟩
    · exact ⟨hr, hK⟩
theorem fo_txt {nm : ByteArray → Bool} : ∀ (F : Fo), okF nm F = true → F.AllH txt → (foF F).AllH txt := by
  intro F
  induction F with
  | nil => intro _ _; trivial
  | cons h k r ihk ihr =>
    intro hF hA
    rw [okF_cons, Bool.and_eq_true] at hF
    have a := ihk (okT_parts hF.1).2.2.2 hA.2.1
    have c := bld_txt (K := foF k) hA.1 a (fun e => by rw [foF_len]; exact if_len hF.1 e)
    rw [foF_cons]
    exact ⟨c.1, c.2, ihr hF.2 hA.2.2⟩
theorem numIx_of {h : Hd} (a : rgH h) (b : txt h) : numIx h := ⟨by
  unfold rgH rg at a
  exact WalkArith.wf_i64 (by omega), b⟩
theorem numIxs_of : ∀ {F : Fo}, F.AllH rgH → F.AllH txt → F.AllH numIx
  | .nil, _, _ => trivial
  | .cons _ _ _, ⟨a, b, c⟩, ⟨x, y, z⟩ => ⟨numIx_of a x, numIxs_of b y, numIxs_of c z⟩
theorem txt_of : ∀ {F : Fo}, F.AllH numIx → F.AllH txt
  | .nil, _ => trivial
  | .cons _ _ _, ⟨a, b, c⟩ => ⟨a.2, txt_of b, txt_of c⟩
theorem pre_ok {nm : ByteArray → Bool} : ∀ (F : Fo), okF nm F = true → ∀ x ∈ F.pre, okT nm x.1 x.2 = true ∧ x.2.cnt ≤ F.cnt := by
  intro F
  induction F with
  | nil => intro _ x hx; cases hx
  | cons h k r ihk ihr =>
    intro hF x hx
    rw [okF_cons, Bool.and_eq_true] at hF
    simp only [pre, List.mem_cons, List.mem_append] at hx
    simp only [Fo.cnt]
    rcases hx with rfl | hx | hx
    · exact ⟨hF.1, by show k.cnt ≤ _; omega⟩
    · have := ihk (okT_parts hF.1).2.2.2 x hx; exact ⟨this.1, by omega⟩
    · have := ihr hF.2 x hx; exact ⟨this.1, by omega⟩
/-- A valid file, folded. -/
structure Fd (h : Hd) (F : Fo) : Prop where
  e : fileT h F = (plainH h, foF F)
  v : validT nmv (plainH h) (foF F) = true
  c : (foF F).cnt ≤ F.cnt
  n : numIx (plainH h) ∧ (foF F).AllH numIx
  a : fileT (plainH h) (foF F) = (plainH h, foF F)
  q : ∀ x ∈ preT (plainH h) (foF F), Qn x.1 x.2 ∧ okT nmv x.1 x.2 = true ∧ x.2.cnt ≤ F.cnt
theorem fd_of {h : Hd} {F : Fo} (hV : validT nmv h F = true) (hn : numIx h) (hF : F.AllH numIx) : Fd h F := by
  have hr := rg_of hn
  have hA := rgs_of hF
  obtain ⟨e1, e2, e3⟩ := valid_fo hV hr hA
  have hT : okT nmv h F = true := by
    unfold validT at hV
    rw [Bool.and_eq_true, permT_dep, Bool.and_eq_true] at hV
    exact hV.2.1
  have hk := (okT_parts hT).2.2.2
  have hFo : okF nmv (.cons h F .nil) = true := by rw [okF_cons, hT]; rfl
  have rgA := fo_rg F hk hA
  have ff := fo_fo F hk hA
  have ef : fileT h F = (plainH h, foF F) := by unfold fileT; rw [nm_nmv', if_pos hV, e1]
  have ok' := ok_fo (.cons h F .nil) hFo ⟨hr, hA, trivial⟩
  have q' := q_fo (.cons h F .nil) hFo ⟨hr, hA, trivial⟩
  rw [foF_cons, e1] at ok' q'
  have ep : (Fo.cons (plainH h) (foF F) (foF .nil)).pre = preT (plainH h) (foF F) := by
    show _ :: ((foF F).pre ++ []) = _
    rw [List.append_nil]; rfl
  refine ⟨ef, e2, e3, ⟨numIx_of rg0 hn.2, numIxs_of rgA (fo_txt F hk (txt_of hF))⟩, ?_, fun x hx => ?_⟩
  · have := (valid_fo e2 rg0 rgA).1
    unfold fileT
    rw [nm_nmv', if_pos e2, this, ff]
    rfl
  · rw [← ep] at hx
    obtain ⟨o1, o2⟩ := pre_ok _ ok' x hx
    refine ⟨q' x hx, o1, ?_⟩
    have : x ∈ preT (plainH h) (foF F) := by rw [← ep]; exact hx
    unfold preT at this
    rcases List.mem_cons.1 this with rfl | h2
    · exact e3
    · have := (pre_ok (nm := nmv) (foF F) (okT_parts (by unfold validT at e2; rw [Bool.and_eq_true, permT_dep, Bool.and_eq_true] at e2; exact e2.2.1)).2.2.2 x h2).2; omega
theorem ecells_at : ∀ (E : List El) (i : Nat) (e : El), E[i]? = some e → ∀ (c : Nat) (v : Value), e.cells[c]? = some v → (ecells E)[i * 9 + c]? = some v := by
  intro E
  induction E with
  | nil => intro i e he; simp at he
  | cons a l ih =>
    intro i e he c v hv
    have ha : a.cells.length = 9 := rfl
    have e0 : ecells (a :: l) = a.cells ++ ecells l := rfl
    cases i with
    | zero =>
      obtain rfl : a = e := by simpa using he
      have hc : c < a.cells.length := (List.getElem?_eq_some_iff.1 hv).1
      rw [e0, Nat.zero_mul, Nat.zero_add, List.getElem?_append_left hc, hv]
    | succ j =>
      have := ih j e (by simpa using he) c v hv
      rw [e0, List.getElem?_append_right (by rw [ha]; omega), ha, show (j + 1) * 9 + c - 9 = j * 9 + c by omega]
      exact this
theorem el_at {w : World} {base g n cap : Nat} {E : List El} (HO : w.ownsRow base 26 9 (.slice (some ⟨g, 0, none⟩) n cap) n (ecells E)) (i : Nat) (e : El) (he : E[i]? = some e) : At9 w g (i * 9) e.h e.A e.k.len e.cap := by
  have k := fun c v hv => own_cells HO (i * 9 + c) v (ecells_at E i e he c v hv)
  exact ⟨k 0 _ rfl, k 1 _ rfl, k 2 _ rfl, k 3 _ rfl, k 4 _ rfl, k 5 _ rfl, k 6 _ rfl, k 7 _ rfl, k 8 _ rfl⟩

end Go.Proofs.YtnknphchjmnkcaaGreatDoor
set_option linter.all false
namespace Go.Proofs.YtnknphchjmnkcaaGreatDoor
open Go.RowKit T T.Fo

theorem kids_fst {w : World} {A : Option Addr} {h0 : Hd} {k0 r : Fo} (hk : Kids (Lt w.heap.size) w A (.cons h0 k0 r)) : ∃ g o A0 c0, A = some ⟨g, o, none⟩ ∧ At9 w g o h0 A0 k0.len c0 ∧ Kids (Lt w.heap.size) w A0 k0 ∧ g < w.heap.size := by
  obtain ⟨g, o, A0, c0, rfl, h9, hc, hk0, _, _, hg⟩ := (Rest.start hk).next
  rw [show o + 0 * 9 = o by omega] at h9
  exact ⟨g, o, A0, c0, rfl, h9, hk0, hg⟩
/-- An NIf of a permitted tree has a child. -/
theorem if_kids {h : Hd} {k : Fo} (e : h.kind = 18) (H : okT nmv h k = true) : ∃ h0 k0 r, k = .cons h0 k0 r := by
  cases k with
  | nil =>
    have hp := (okT_parts H).2.2.1
    rw [e] at hp
    exact absurd hp (by simp [places, fits])
  | cons a b c => exact ⟨a, b, c, rfl⟩
end Go.Proofs.YtnknphchjmnkcaaGreatDoor
set_option linter.all false
namespace Go.Proofs.YtnknphchjmnkcaaGreatDoor
open Go.RowKit T T.Fo
/-- A unary operation of a permitted tree has one child. -/
theorem un_kids {h : Hd} {k : Fo} (e : h.kind = 31) (H : okT nmv h k = true) : ∃ h0 k0, k = .cons h0 k0 .nil := by
  have hp := (okT_parts H).2.2.1
  rw [e] at hp
  cases k with
  | nil => exact absurd hp (by simp [places, fits])
  | cons a b c =>
    cases c with
    | nil => exact ⟨a, b, rfl⟩
    | cons x y z => exact absurd hp (by simp [places, fits])
theorem ba45 {t : ByteArray} (h : t.data.toList = [45]) : t = ⟨#[45]⟩ := by
  exact ByteArray.ext (Array.toList_inj.1 h)
theorem ba45' {t : ByteArray} (h : t ≠ ⟨#[45]⟩) : (t.toList == [45]) = false := by
  rw [ByteArray.toList_eq]
  simp only [beq_eq_false_iff_ne, ne_eq]
  exact fun e => h (ba45 e)

theorem const_yes (h : Hd) (F : Fo) (A : Option Addr) (cap : Nat) (w : World) (hG : Glob w) (hk : Kids (Lt w.heap.size) w A F) (hn : numIx h) (hF : F.AllH numIx) (hc : F.cnt + 1 ≤ 1048576) (hg : ¬ F.cnt + 1 ≤ 250) : Calls Tryz.prog 7 #[nv h A F.len cap] w fun e w' => e = .returned (.bool true) ∧ Below w.heap.size w w' := by
  have H0 := Lib.hid (Nx.start w h A F.len cap)
  have HAW := Lib.hid (awake_any (w.alloc (.cells (nc h A F.len cap) 26)) (glob_below hG H0.out.b))
  obtain ⟨m, hm⟩ : ∃ m, F.cnt + 1 = m := ⟨_, rfl⟩
  have HCN := Lib.hid (cnt_call (h := h) (cap := cap) hk hc hm)
  have hgv : decide ((250 : Int) < (m : Int)) = true := by simp; omega
  obtain ⟨n, hna⟩ : ∃ n, F.len = n := ⟨_, rfl⟩
  rw [hna] at H0 HAW HCN ⊢
  clear hG hk hn hF hc hm hna hg
  go_enter Tryz.func7, Tryz.ntmps7
  go_wp2_with fail
  refine HAW.out.mono ?_
  rintro e w1 ⟨rfl, hb1⟩
  have X1 := Lib.hid (H0.out.keep hb1)
  obtain ⟨a0, a1, a2, a3, a4, a5, a6, a7, a8⟩ := nb9 X1.out.n
  clear hb1
  go_wp2_with fail
  refine (HCN.out _ X1.out.b).mono ?_
  rintro e w2 ⟨rfl, hb2⟩
  have X2 := Lib.hid (X1.out.keep hb2)
  clear a0 a1 a2 a3 a4 a5 a6 a7 a8
  obtain ⟨a0, a1, a2, a3, a4, a5, a6, a7, a8⟩ := nb9 X2.out.n
  clear hb2
  go_wp2
  go_ret
  exact ⟨rfl, X2.out.b⟩

set_option maxHeartbeats 2000000 in
theorem const_inv (h : Hd) (F : Fo) (A : Option Addr) (cap : Nat) (w : World) (hG : Glob w) (hk : Kids (Lt w.heap.size) w A F) (hn : numIx h) (hF : F.AllH numIx) (hc : F.cnt + 1 ≤ 1048576) (hg : F.cnt + 1 ≤ 250) (hv : validT nmv h F = false) : Calls Tryz.prog 7 #[nv h A F.len cap] w fun e w' => e = .returned (.bool true) ∧ Below w.heap.size w w' := by
  have H0 := Lib.hid (Nx.start w h A F.len cap)
  have HAW := Lib.hid (awake_any (w.alloc (.cells (nc h A F.len cap) 26)) (glob_below hG H0.out.b))
  obtain ⟨m, hm⟩ : ∃ m, F.cnt + 1 = m := ⟨_, rfl⟩
  have HCN := Lib.hid (cnt_call (h := h) (cap := cap) hk hc hm)
  have hgv : decide ((250 : Int) < (m : Int)) = false := by simp; omega
  have HVD : Hid (∀ V, Below w.heap.size w V → Calls Tryz.prog 22 #[nv h A F.len cap] V fun e w' => e = .returned (.bool false) ∧ Below V.heap.size V w') := Lib.hid fun V hV => by
    have := rvalid_any h F A cap V ⟨hn, hF, by omega⟩ (kidsV hk hV)
    rw [hv] at this
    exact this
  obtain ⟨n, hna⟩ : ∃ n, F.len = n := ⟨_, rfl⟩
  rw [hna] at H0 HAW HCN HVD ⊢
  clear hG hk hn hF hc hm hna hg hv
  go_enter Tryz.func7, Tryz.ntmps7
  go_wp2_with fail
  refine HAW.out.mono ?_
  rintro e w1 ⟨rfl, hb1⟩
  have X1 := Lib.hid (H0.out.keep hb1)
  obtain ⟨a0, a1, a2, a3, a4, a5, a6, a7, a8⟩ := nb9 X1.out.n
  clear hb1
  go_wp2_with fail
  refine (HCN.out _ X1.out.b).mono ?_
  rintro e w2 ⟨rfl, hb2⟩
  have X2 := Lib.hid (X1.out.keep hb2)
  clear a0 a1 a2 a3 a4 a5 a6 a7 a8
  obtain ⟨a0, a1, a2, a3, a4, a5, a6, a7, a8⟩ := nb9 X2.out.n
  clear hb2
  go_wp2_with fail
  refine (HVD.out _ X2.out.b).mono ?_
  rintro e w3 ⟨rfl, hb3⟩
  have X3 := Lib.hid (X2.out.keep hb3)
  clear a0 a1 a2 a3 a4 a5 a6 a7 a8
  obtain ⟨a0, a1, a2, a3, a4, a5, a6, a7, a8⟩ := nb9 X3.out.n
  clear hb3
  go_wp2
  go_ret
  exact ⟨rfl, X3.out.b⟩

set_option maxRecDepth 100000 in
set_option maxHeartbeats 8000000 in
theorem const_val (h : Hd) (F : Fo) (A : Option Addr) (cap : Nat) (w : World) (hG : Glob w) (hk : Kids (Lt w.heap.size) w A F) (hn : numIx h) (hF : F.AllH numIx) (hc : F.cnt + 1 ≤ 1048576) (hcap : F.len ≤ cap) (hg : F.cnt + 1 ≤ 250) (hv : validT nmv h F = true) : Calls Tryz.prog 7 #[nv h A F.len cap] w fun e w' => e = .returned (.bool true) ∧ Below w.heap.size w w' := by
  have H0 := Lib.hid (Nx.start w h A F.len cap)
  have HAW := Lib.hid (awake_any (w.alloc (.cells (nc h A F.len cap) 26)) (glob_below hG H0.out.b))
  obtain ⟨m, hm⟩ : ∃ m, F.cnt + 1 = m := ⟨_, rfl⟩
  have HCN := Lib.hid (cnt_call (h := h) (cap := cap) hk hc hm)
  have hgv : decide ((250 : Int) < (m : Int)) = false := by simp; omega
  have fd := fd_of hv hn hF
  obtain ⟨fh, hfh⟩ : ∃ x, plainH h = x := ⟨_, rfl⟩
  obtain ⟨fk, hfk⟩ : ∃ x, foF F = x := ⟨_, rfl⟩
  obtain ⟨ef, fv, fc, fn, fa, fq⟩ := fd
  rw [hfh, hfk] at ef fv fn fa fq
  rw [hfk] at fc
  have HFI : Hid (∀ V, Below w.heap.size w V → Calls Tryz.prog 18 #[nv h A F.len cap] V fun e w' => ∃ A c, e = .returned (nv fh A fk.len c) ∧ (fk.len ≤ c ∧ Kids (Lt w'.heap.size) w' A fk) ∧ Below V.heap.size V w') := Lib.hid fun V hV => by
    have := file_any h F A cap V (glob_below hG hV) (kidsV hk hV) hn hF hc
    rw [ef] at this
    exact this.mono fun e w' ⟨A, c, a, b, k, d⟩ => ⟨A, c, a, ⟨b, k.carry fun b hb => ⟨hb.2, rfl⟩⟩, d⟩
  have HVD : Hid (∀ V, Below w.heap.size w V → Calls Tryz.prog 22 #[nv h A F.len cap] V fun e w' => e = .returned (.bool true) ∧ Below V.heap.size V w') := Lib.hid fun V hV => by
    have := rvalid_any h F A cap V ⟨hn, hF, by omega⟩ (kidsV hk hV)
    rw [hv] at this
    exact this
  obtain ⟨mf, hmf⟩ : ∃ m, fk.cnt + 1 = m := ⟨_, rfl⟩
  have HLI : Hid (∀ W V A1 c1, (fk.len ≤ c1 ∧ Kids (Lt W.heap.size) W A1 fk) → Below W.heap.size W V → Calls Tryz.prog 23 #[nv fh A1 fk.len c1] V (Listed V W.heap.size (preT fh fk))) := Lib.hid fun W V A1 c1 hk1 hV => list_any fh fk A1 c1 V W.heap.size hV.size (hk1.2.below hV (Nat.le_refl _)) hk1.1 (by omega)
  have HQ := Lib.hid fq
  have HLN : Hid ((preT fh fk).length = mf) := Lib.hid (by rw [preT_len]; omega)
  have hmfb : mf ≤ 1048576 := by omega
  have hFc : F.cnt ≤ 250 := by omega
  obtain ⟨n, hna⟩ : ∃ n, F.len = n := ⟨_, rfl⟩
  obtain ⟨n', hnb⟩ : ∃ n, fk.len = n := ⟨_, rfl⟩
  rw [hna] at H0 HAW HCN HFI HVD ⊢
  rw [hnb] at HFI HLI
  clear hG hk hn hF hc hm hna hg hv hcap ef fv fc fn fa fq hfh hfk hmf hnb
  go_enter Tryz.func7, Tryz.ntmps7
  go_wp2_with fail
  refine HAW.out.mono ?_
  rintro e w1 ⟨rfl, hb1⟩
  have X1 := Lib.hid (H0.out.keep hb1)
  obtain ⟨a0, a1, a2, a3, a4, a5, a6, a7, a8⟩ := nb9 X1.out.n
  clear hb1
  go_wp2_with fail
  refine (HCN.out _ X1.out.b).mono ?_
  rintro e w2 ⟨rfl, hb2⟩
  have X2 := Lib.hid (X1.out.keep hb2)
  clear a0 a1 a2 a3 a4 a5 a6 a7 a8
  obtain ⟨a0, a1, a2, a3, a4, a5, a6, a7, a8⟩ := nb9 X2.out.n
  clear hb2
  go_wp2_with fail
  refine (HVD.out _ X2.out.b).mono ?_
  rintro e w3 ⟨rfl, hb3⟩
  have X3 := Lib.hid (X2.out.keep hb3)
  clear a0 a1 a2 a3 a4 a5 a6 a7 a8
  obtain ⟨a0, a1, a2, a3, a4, a5, a6, a7, a8⟩ := nb9 X3.out.n
  clear hb3
  go_wp2_with fail
  refine (HFI.out _ X3.out.b).mono ?_
  rintro e w4 ⟨A1, c1, rfl, hk3, hb4⟩
  have X4 := Lib.hid (X3.out.keep hb4)
  clear a0 a1 a2 a3 a4 a5 a6 a7 a8
  obtain ⟨a0, a1, a2, a3, a4, a5, a6, a7, a8⟩ := nb9 X4.out.n
  have HK4 := Lib.hid hk3
  clear hk3
  clear hb4
  go_wp2_with fail
  refine (HLI.out w4 _ _ _ HK4.out (Below.refl _ _)).mono ?_
  rintro e w5 ⟨g, lc, E, rfl, hown, hels, hEm, hb5, hE0⟩
  obtain ⟨ln, hln⟩ : ∃ ln, E.length = ln := ⟨_, rfl⟩
  have hlnm : ln = mf := by rw [← hln, ← HLN.out, ← hEm, List.length_map]
  rw [hln] at hown ⊢
  have HO := Lib.hid hown
  have HE := Lib.hid hels
  have HM := Lib.hid hEm
  have HEN := Lib.hid hln
  have B5 := Lib.hid (X4.out.b.trans (hb5.mono X4.out.b.size))
  have hg5 : g < w5.heap.size := (hown.lt g rfl).2
  have z45 : w4.heap.size ≤ w5.heap.size := hb5.size
  have hlnb : ln ≤ 1048576 := by omega
  clear hown hels hEm hb5 hE0 hln hlnm hgv hmfb a0 a1 a2 a3 a4 a5 a6 a7 a8
  go_wp2
  go_loopw [4] (fun ix wr => ∃ i : Nat, ix = .int .i64 (i : Int) ∧ i ≤ ln ∧ Below w5.heap.size w5 wr) (fun ix _ => ln - (intOf ix).toNat)
  case atStart => exact ⟨0, rfl, Nat.zero_le _, Below.refl _ _⟩
  case round =>
    obtain ⟨i, rfl, hi, hbr⟩ := hrel
    have HBR := Lib.hid hbr
    by_cases hlt : i < ln
    · have hiE : i < E.length := by rw [HEN.out]; exact hlt
      obtain ⟨x, hx⟩ : ∃ x, E[i]? = some x := ⟨E[i], by simp [hiE]⟩
      have hmem : (x.h, x.k) ∈ preT fh fk := by
        rw [← HM.out]
        exact List.mem_map.2 ⟨x, List.mem_of_getElem? hx, rfl⟩
      obtain ⟨q1, q2, q3⟩ := HQ.out _ hmem
      obtain ⟨q5, q6⟩ := HE.out x (List.mem_of_getElem? hx)
      have HAT := Lib.hid (el_at HO.out i x hx)
      obtain ⟨⟨kd, tx, nu, p, tk, tn, r, u⟩, ek, eA, ec⟩ := x
      have hi0 : (0 : Int) ≤ i := by omega
      have hi1 : (i : Int) < ln := by omega
      have hgr : g < wr.heap.size := Nat.lt_of_lt_of_le hg5 hbr.size
      have hkr : Kids (Lt wr.heap.size) wr eA ek := kidsV (q6.mono z45) hbr
      have hat : At9 wr g (i * 9) ⟨kd, tx, nu, p, tk, tn, r, u⟩ eA ek.len ec := HAT.out.carry (hbr.block g hg5)
      change Qn ⟨kd, tx, nu, p, tk, tn, r, u⟩ ek at q1
      change okT nmv ⟨kd, tx, nu, p, tk, tn, r, u⟩ ek = true at q2
      have hdk : ek.dep + 1 ≤ 65536 := by
        have := dep_le ek
        change ek.cnt ≤ F.cnt at q3
        omega
      have HV0 : Hid (∀ V, Below wr.heap.size wr V → Calls Tryz.prog 14 #[nv ⟨kd, tx, nu, p, tk, tn, r, u⟩ eA ek.len ec] V (RetV (evT ⟨kd, tx, nu, p, tk, tn, r, u⟩ ek).v ((evT ⟨kd, tx, nu, p, tk, tn, r, u⟩ ek).k != 0) V)) := Lib.hid fun V hV => value_any _ ek eA ec V (kidsV hkr hV) hdk
      have q4 := q1.2
      obtain ⟨vv, hvv⟩ : ∃ vv, (evT ⟨kd, tx, nu, p, tk, tn, r, u⟩ ek).v = vv := ⟨_, rfl⟩
      obtain ⟨ck, hck⟩ : ∃ ck, (evT ⟨kd, tx, nu, p, tk, tn, r, u⟩ ek).k = ck := ⟨_, rfl⟩
      rw [hvv, hck] at HV0 q4
      clear HAT hvv hck hdk
      by_cases e0 : ck = 0
      · subst e0
        rw [show ((0 : Int) != 0) = false from rfl] at HV0
        obtain ⟨el, hel⟩ : ∃ el, ek.len = el := ⟨_, rfl⟩
        rw [hel] at HV0 hat
        clear hel
        have HAT2 : Hid (∀ V, Below wr.heap.size wr V → At9 V g (i * 9) ⟨kd, tx, nu, p, tk, tn, r, u⟩ eA el ec) := Lib.hid fun V hV => hat.carry (hV.block g hgr)
        obtain ⟨t0, t1, t2, t3, t4, t5, t6, t7, t8⟩ := hat
        have HVL := HV0
        clear HV0 q4
        clear hx hmem q1 q2 q3 q5 q6 hkr hiE hbr 
        go_wp2_with fail
        refine (HVL.out _ (Below.refl _ _)).mono ?_
        rintro e v1 ⟨rfl, hb⟩
        have B6 := Lib.hid (HBR.out.trans (hb.mono HBR.out.size))
        clear t0 t1 t2 t3 t4 t5 t6 t7 t8
        obtain ⟨t0, t1, t2, t3, t4, t5, t6, t7, t8⟩ := HAT2.out _ hb
        have hgr1 : g < v1.heap.size := Nat.lt_of_lt_of_le hgr hb.size
        clear hb
        go_wp2
        go_roundw
        case rel => exact ⟨i + 1, by go_num, by omega, B6.out⟩
        case measure => simp [intOf]; omega
      · have hck : (ck != 0) = true := by simpa using e0
        rw [hck] at HV0
        have q7 := q4 e0
        clear hck e0
        by_cases e24 : kd = 24
        · subst e24
          obtain ⟨el, hel⟩ : ∃ el, ek.len = el := ⟨_, rfl⟩
          rw [hel] at HV0 hat
          clear hel
          have HAT2 : Hid (∀ V, Below wr.heap.size wr V → At9 V g (i * 9) ⟨24, tx, nu, p, tk, tn, r, u⟩ eA el ec) := Lib.hid fun V hV => hat.carry (hV.block g hgr)
          obtain ⟨t0, t1, t2, t3, t4, t5, t6, t7, t8⟩ := hat
          have HVL := HV0
          clear HV0 q4
          clear hx hmem q1 q2 q3 q5 q6 hkr hiE hbr q7
          go_wp2_with fail
          refine (HVL.out _ (Below.refl _ _)).mono ?_
          rintro e v1 ⟨rfl, hb⟩
          have B6 := Lib.hid (HBR.out.trans (hb.mono HBR.out.size))
          clear t0 t1 t2 t3 t4 t5 t6 t7 t8
          obtain ⟨t0, t1, t2, t3, t4, t5, t6, t7, t8⟩ := HAT2.out _ hb
          have hgr1 : g < v1.heap.size := Nat.lt_of_lt_of_le hgr hb.size
          clear hb
          go_wp2
          go_roundw
          case rel => exact ⟨i + 1, by go_num, by omega, B6.out⟩
          case measure => simp [intOf]; omega
        by_cases e25 : kd = 25
        · subst e25
          obtain ⟨el, hel⟩ : ∃ el, ek.len = el := ⟨_, rfl⟩
          rw [hel] at HV0 hat
          clear hel
          have HAT2 : Hid (∀ V, Below wr.heap.size wr V → At9 V g (i * 9) ⟨25, tx, nu, p, tk, tn, r, u⟩ eA el ec) := Lib.hid fun V hV => hat.carry (hV.block g hgr)
          obtain ⟨t0, t1, t2, t3, t4, t5, t6, t7, t8⟩ := hat
          have HVL := HV0
          clear HV0 q4
          clear hx hmem q1 q2 q3 q5 q6 hkr hiE hbr q7
          go_wp2_with fail
          refine (HVL.out _ (Below.refl _ _)).mono ?_
          rintro e v1 ⟨rfl, hb⟩
          have B6 := Lib.hid (HBR.out.trans (hb.mono HBR.out.size))
          clear t0 t1 t2 t3 t4 t5 t6 t7 t8
          obtain ⟨t0, t1, t2, t3, t4, t5, t6, t7, t8⟩ := HAT2.out _ hb
          have hgr1 : g < v1.heap.size := Nat.lt_of_lt_of_le hgr hb.size
          clear hb
          go_wp2
          go_roundw
          case rel => exact ⟨i + 1, by go_num, by omega, B6.out⟩
          case measure => simp [intOf]; omega
        have e24' : (kd == 24) = false := by simpa using e24
        have e25' : (kd == 25) = false := by simpa using e25
        by_cases e31 : kd = 31
        · subst e31
          obtain ⟨kh, kk, ee⟩ := un_kids rfl q2
          subst ee
          obtain ⟨g2, o2, A2, k2, ea, d9, k9, hg2⟩ := kids_fst hkr
          change eA = _ at ea
          subst ea
          obtain ⟨gl, hgl⟩ : ∃ gl, kk.len = gl := ⟨_, rfl⟩
          rw [hgl] at d9
          have HD2 : Hid (∀ V, Below wr.heap.size wr V → At9 V g2 o2 kh A2 gl k2) := Lib.hid fun V hV => d9.carry (hV.block g2 hg2)
          change Hid (∀ V, Below wr.heap.size wr V → Calls Tryz.prog 14 #[nv ⟨31, tx, nu, p, tk, tn, r, u⟩ (some ⟨g2, o2, none⟩) 1 ec] V (RetV vv true V)) at HV0
          change At9 wr g (i * 9) ⟨31, tx, nu, p, tk, tn, r, u⟩ (some ⟨g2, o2, none⟩) 1 ec at hat
          clear hgl d9 k9
          by_cases e45 : tx = ⟨#[45]⟩
          · subst e45
            by_cases c24 : kh.kind = 24
            · have hvn : vv < 0 := by
                rcases q7 with q | q | ⟨_, _, _, _, q⟩ | q
                · exact absurd (show (31 : Int) = 24 from q) (by decide)
                · exact absurd (show (31 : Int) = 25 from q) (by decide)
                · exact q
                · rw [q]; decide
              have hvd : decide (vv < 0) = true := by simpa using hvn
              have HAT2 : Hid (∀ V, Below wr.heap.size wr V → At9 V g (i * 9) ⟨31, ⟨#[45]⟩, nu, p, tk, tn, r, u⟩ (some ⟨g2, o2, none⟩) 1 ec) := Lib.hid fun V hV => hat.carry (hV.block g hgr)
              obtain ⟨t0, t1, t2, t3, t4, t5, t6, t7, t8⟩ := hat
              have HVL := HV0
              clear HV0 q4
              clear hx hmem q1 q2 q3 q5 q6 hkr hiE hbr q7
              go_wp2_with fail
              refine (HVL.out _ (Below.refl _ _)).mono ?_
              rintro e v1 ⟨rfl, hb⟩
              have B6 := Lib.hid (HBR.out.trans (hb.mono HBR.out.size))
              clear t0 t1 t2 t3 t4 t5 t6 t7 t8
              obtain ⟨t0, t1, t2, t3, t4, t5, t6, t7, t8⟩ := HAT2.out _ hb
              obtain ⟨u0, u1, u2, u3, u4, u5, u6, u7, u8⟩ := HD2.out _ hb
              have hgr1 : g < v1.heap.size := Nat.lt_of_lt_of_le hgr hb.size
              clear hb
              go_wp2
              go_roundw
              case rel => exact ⟨i + 1, by go_num, by omega, B6.out⟩
              case measure => simp [intOf]; omega
            · have hvn : vv = -9223372036854775808 := by
                rcases q7 with q | q | ⟨_, _, q, _, _⟩ | q
                · exact absurd (show (31 : Int) = 24 from q) (by decide)
                · exact absurd (show (31 : Int) = 25 from q) (by decide)
                · exact absurd q c24
                · exact q
              subst hvn
              have c24' : (kh.kind == 24) = false := by simpa using c24
              have HAT2 : Hid (∀ V, Below wr.heap.size wr V → At9 V g (i * 9) ⟨31, ⟨#[45]⟩, nu, p, tk, tn, r, u⟩ (some ⟨g2, o2, none⟩) 1 ec) := Lib.hid fun V hV => hat.carry (hV.block g hgr)
              obtain ⟨t0, t1, t2, t3, t4, t5, t6, t7, t8⟩ := hat
              have HVL := HV0
              clear HV0 q4
              clear hx hmem q1 q2 q3 q5 q6 hkr hiE hbr q7
              go_wp2_with fail
              refine (HVL.out _ (Below.refl _ _)).mono ?_
              rintro e v1 ⟨rfl, hb⟩
              have B6 := Lib.hid (HBR.out.trans (hb.mono HBR.out.size))
              clear t0 t1 t2 t3 t4 t5 t6 t7 t8
              obtain ⟨t0, t1, t2, t3, t4, t5, t6, t7, t8⟩ := HAT2.out _ hb
              obtain ⟨u0, u1, u2, u3, u4, u5, u6, u7, u8⟩ := HD2.out _ hb
              have hgr1 : g < v1.heap.size := Nat.lt_of_lt_of_le hgr hb.size
              clear hb
              go_wp2
              go_roundw
              case rel => exact ⟨i + 1, by go_num, by omega, B6.out⟩
              case measure => simp [intOf]; omega
          · have hvn : vv = -9223372036854775808 := by
              rcases q7 with q | q | ⟨_, q, _, _, _⟩ | q
              · exact absurd (show (31 : Int) = 24 from q) (by decide)
              · exact absurd (show (31 : Int) = 25 from q) (by decide)
              · exact absurd (ba45 q) e45
              · exact q
            subst hvn
            have h45 := ba45' e45
            have HAT2 : Hid (∀ V, Below wr.heap.size wr V → At9 V g (i * 9) ⟨31, tx, nu, p, tk, tn, r, u⟩ (some ⟨g2, o2, none⟩) 1 ec) := Lib.hid fun V hV => hat.carry (hV.block g hgr)
            obtain ⟨t0, t1, t2, t3, t4, t5, t6, t7, t8⟩ := hat
            have HVL := HV0
            clear HV0 q4
            clear hx hmem q1 q2 q3 q5 q6 hkr hiE hbr q7 e45
            go_wp2_with fail
            refine (HVL.out _ (Below.refl _ _)).mono ?_
            rintro e v1 ⟨rfl, hb⟩
            have B6 := Lib.hid (HBR.out.trans (hb.mono HBR.out.size))
            clear t0 t1 t2 t3 t4 t5 t6 t7 t8
            obtain ⟨t0, t1, t2, t3, t4, t5, t6, t7, t8⟩ := HAT2.out _ hb
            obtain ⟨u0, u1, u2, u3, u4, u5, u6, u7, u8⟩ := HD2.out _ hb
            have hgr1 : g < v1.heap.size := Nat.lt_of_lt_of_le hgr hb.size
            clear hb
            go_wp2
            go_roundw
            case rel => exact ⟨i + 1, by go_num, by omega, B6.out⟩
            case measure => simp [intOf]; omega
        · have hvn : vv = -9223372036854775808 := by
            rcases q7 with q | q | ⟨q, _, _, _, _⟩ | q
            · exact absurd q e24
            · exact absurd q e25
            · exact absurd q e31
            · exact q
          subst hvn
          have e31' : (kd == 31) = false := by simpa using e31
          obtain ⟨el, hel⟩ : ∃ el, ek.len = el := ⟨_, rfl⟩
          rw [hel] at HV0 hat
          clear hel
          have HAT2 : Hid (∀ V, Below wr.heap.size wr V → At9 V g (i * 9) ⟨kd, tx, nu, p, tk, tn, r, u⟩ eA el ec) := Lib.hid fun V hV => hat.carry (hV.block g hgr)
          obtain ⟨t0, t1, t2, t3, t4, t5, t6, t7, t8⟩ := hat
          have HVL := HV0
          clear HV0 q4
          clear hx hmem q1 q2 q3 q5 q6 hkr hiE hbr q7
          go_wp2_with fail
          refine (HVL.out _ (Below.refl _ _)).mono ?_
          rintro e v1 ⟨rfl, hb⟩
          have B6 := Lib.hid (HBR.out.trans (hb.mono HBR.out.size))
          clear t0 t1 t2 t3 t4 t5 t6 t7 t8
          obtain ⟨t0, t1, t2, t3, t4, t5, t6, t7, t8⟩ := HAT2.out _ hb
          have hgr1 : g < v1.heap.size := Nat.lt_of_lt_of_le hgr hb.size
          clear hb
          go_wp2
          go_roundw
          case rel => exact ⟨i + 1, by go_num, by omega, B6.out⟩
          case measure => simp [intOf]; omega
    · obtain rfl : i = ln := by omega
      go_wp2
      go_ret
      exact ⟨rfl, B5.out.trans (HBR.out.mono B5.out.size)⟩

theorem constants_law (h : Hd) (F : Fo) (A : Option Addr) (cap : Nat) (w : World) (hG : Glob w) (hk : Kids (Lt w.heap.size) w A F) (hn : numIx h) (hF : F.AllH numIx) (hc : F.cnt + 1 ≤ 1048576) (hcap : F.len ≤ cap) : Calls Tryz.prog 7 #[nv h A F.len cap] w fun e w' => e = .returned (.bool true) ∧ Below w.heap.size w w' := by
  by_cases g : F.cnt + 1 ≤ 250
  · by_cases v : validT nmv h F = true
    · exact const_val h F A cap w hG hk hn hF hc hcap g v
    · exact const_inv h F A cap w hG hk hn hF hc g (by simpa using v)
  · exact const_yes h F A cap w hG hk hn hF hc g

end Go.Proofs.YtnknphchjmnkcaaGreatDoor
namespace Go.Proofs.YtnknphchjmnkcaaGreatDoor
open Go.ChangeShapes Go.WideShapes Go.ChangeAt Go.RowKit Go.Deep M T T.Fo
set_option linter.all false
namespace S7
set_option maxRecDepth 100000 in
theorem contract (H : Type) (enc : TypeId × Value → H) (W : World) (base : Nat) (args : Array Value) (ds gs : List (DataW H)) (before : List MemPlace)
    (hval0 : ∀ (j : Nat) t v, Tryz.f7.params[j]? = some t → args[j]? = some v → Value.okWide Tryz.prog W .any base t v)
    (hW : DataW.Whole enc Tryz.prog Tryz.f7.params.toList Rows.foldConstantsSpec.vars false W args.toList ds gs before) (hL : laidMetH Tryz.prog Rows.foldValueRow.laid W) (hB : Rows.uptoSmall H (ds ++ gs) = true) :
    Calls Tryz.prog 7 args W fun e W' => ∃ v, e = .returned v ∧ Rows.foldConstantsSpec.post enc Tryz.prog Tryz.f7 false true false false W args v W' := by
  have hval : ∀ (j : Nat) t v, Tryz.f7.params[j]? = some t → args[j]? = some v → Value.okWide Tryz.prog W .any base t v := hval0
  have hW' := hW
  obtain ⟨p, q, hA0, hV, rfl, hfz, hnd⟩ := hW
  have hA : DataW.TrodAll enc Tryz.prog W 0 (fun _ => true) true Tryz.f7.params.toList args.toList ds p := hA0
  rw [Tryz.params7] at hA hval
  obtain ⟨v0, vs0, d0, ds0, p0, q0, hargs, rfl, rfl, h0, r0⟩ := trodAll_cons hA
  obtain ⟨rfl, rfl, rfl⟩ := trodAll_nil r0
  obtain rfl : args = #[v0] := by cases args; simp_all
  obtain ⟨rfl, rfl⟩ := trodVars_none hV
  have lt0 : ∀ x ∈ p0, x.block < W.heap.size := by obtain ⟨m, hm⟩ := h0; exact DataW.trod_lt m _ _ _ hm
  obtain ⟨hd0, A0, c0, F0, rfl, hc0, hk0, hn0, hF0, hb0⟩ := open_treex (hval 0 26 v0 rfl rfl) h0
  have hbulk : Rows.uptoBulkAll [d0] ≤ 1048576 := by
    have := of_decide_eq_true hB
    simpa using this
  simp only [Rows.uptoBulkAll] at hbulk
  clear hA0 hval0
  refine (constants_law hd0 F0 A0 c0 W (glob_of hL) hk0 hn0 hF0 (by omega) hc0).mono fun e W' ⟨he, bel⟩ => ?_
  subst he
  exact ⟨_, rfl, _, _, _, [], _, [], hW', trodAll_mk1 (shut_bool Tryz.underlying4 _), (trodAll_cons_mk (Below.trod laidOut (by kernel_rfl) (of_decide_eq_true (by kernel_rfl)) h0 bel lt0) trodAll_mk0), rfl, bel.frame _, fun h => by cases h⟩

set_option maxRecDepth 100000 in
theorem reads (os : Os) {H : Type} (enc : TypeId × Value → H) : ∃ places, DataW.whole enc Tryz.prog ((laidWorld os).forCall (fun _ _ => 0) ⟨#[], #[.agg #[.int .i64 0, .string ⟨#[]⟩, .int .i64 0, .int .i64 0, .slice none 0 0, .int .i64 0, .string ⟨#[]⟩, .int .i64 0, .int .i64 0]], []⟩).memory Tryz.f7.params.toList Rows.foldConstantsSpec.vars false #[Value.agg #[.int .i64 0, .string ⟨#[]⟩, .int .i64 0, .int .i64 0, .slice none 0 0, .int .i64 0, .string ⟨#[]⟩, .int .i64 0, .int .i64 0]].toList 8 = some ([.agg [.lit (.int .i64 0), .lit (.string []), .lit (.int .i64 0), .lit (.int .i64 0), .nil, .agg [.lit (.int .i64 0), .lit (.string [])], .lit (.int .i64 0), .lit (.int .i64 0)]], [], places) :=
  ⟨[], by kernel_rfl⟩

set_option maxRecDepth 100000 in
theorem lifted (os : Os) (started : os.Started) (H : Type) (enc : TypeId × Value → H) (F : Stop.Interp) :
    ReturnsInHanded {} Tryz.checked os 7 .any ((Rows.OpenSpec.upto Rows.foldConstantsSpec).preRow enc Tryz.prog Tryz.f7 Rows.foldConstantsUptoRow.domain false Rows.foldConstantsUptoRow.laid) (((Rows.OpenSpec.upto Rows.foldConstantsSpec).at F).post enc Tryz.prog Tryz.f7 false true false false) := by
  obtain ⟨places, hx⟩ := reads os enc
  refine returnsInHanded_of_row (C := Tryz.checked) (s := (Rows.OpenSpec.upto Rows.foldConstantsSpec)) own started (by kernel_rfl) Tryz.func7
    (witness_row_atRef (enc := enc) (C := Tryz.checked) false (laidWorld os) #[.agg #[.int .i64 0, .string ⟨#[]⟩, .int .i64 0, .int .i64 0, .slice none 0 0, .int .i64 0, .string ⟨#[]⟩, .int .i64 0, .int .i64 0]] rfl (by kernel_rfl) (by kernel_rfl) (by kernel_rfl)
      (OpenSpec.preRow_of_cond 8 hx (by kernel_rfl) (fun k hk => by cases hk; kernel_rfl) (by kernel_rfl) (laid_met os _))) ?_
  intro W base args ds gs before hval hW _ hk _ hL _ _
  exact contract H enc W base args ds gs before hval hW hL (hk _ rfl)

theorem said : Rows.FoldConstantsUptoSaid :=
  OpenClaim.holds_of_cond 7 Tryz.f7 rfl rfl rfl rfl rfl rfl rfl ⟨rfl, rfl, rfl, rfl, rfl⟩ rfl rfl rfl rfl rfl (by kernel_rfl) Tryz.func7 (by kernel_rfl)
    (of_decide_eq_true (by kernel_rfl)) (by unfold Func.isWrapper; first | (rw [if_pos (by decide +kernel)]; kernel_rfl) | (rw [if_neg (by decide +kernel)]; exact ⟨rfl, rfl⟩))
    (fun os started H enc _ F => by rw [OpenClaim.pre_eq_preRow]; exact lifted os started H enc F)

theorem plain (f : FuncId) (fn : Func) (hf : Tryz.pinned.checked.prog.funcNamed "interleave/interleavelaw07.FoldConstants" = some f) (hfn : Tryz.pinned.checked.prog.funcs[f]? = some fn) :
    true = Tryz.pinned.checked.prog.looks [] ∧ ∀ (j : Nat) t, fn.params[j]? = some t → Tryz.pinned.checked.prog.wantsStandIn t = false := by
  obtain rfl : f = 7 := Option.some.inj ((show Tryz.prog.funcNamed "interleave/interleavelaw07.FoldConstants" = some 7 by kernel_rfl).symm.trans hf) |>.symm
  obtain rfl : fn = Tryz.f7 := (Option.some.inj (Tryz.func7.symm.trans hfn)).symm
  refine ⟨by kernel_rfl, fun j t ht => ?_⟩
  rw [Tryz.params7] at ht
  have hm := Array.mem_of_getElem? ht
  simp only [List.mem_toArray, List.mem_cons, List.not_mem_nil, or_false] at hm
  subst hm
  exact (show Tryz.prog.wantsStandIn 26 = false by kernel_rfl)
end S7

/-- The card. -/
theorem foldConstantsUpto_holds : Rows.FoldConstantsUptoCardSaid :=
  Claim7.holds_tied_plain_at .later [] _ _ _ _ S7.said (fun _ h => by cases h) (by kernel_rfl) (fun _ h => by cases h) foldConstantsUpto_row_tie rfl ⟨rfl, rfl⟩ (by kernel_rfl) rfl S7.plain (by kernel_rfl)

#print axioms foldConstantsUpto_holds
end Go.Proofs.YtnknphchjmnkcaaGreatDoor
