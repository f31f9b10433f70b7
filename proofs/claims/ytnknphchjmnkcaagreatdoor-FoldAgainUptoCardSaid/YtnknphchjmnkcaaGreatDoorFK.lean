/-
  The walks of the specification's constant, at every permitted tree, and replaced (package fold).
-/
import Derived.Test.YtnknphchjmnkcaaGreatDoorFJ
import Derived.Test.YtnknphchjmnkcaaGreatDoorFG
set_option linter.all false
namespace Go.Proofs.YtnknphchjmnkcaaGreatDoor
open Go.RowKit T T.Fo
theorem evT_k {h : Hd} {k : Fo} (hr : rgH h) (hk : k.AllH rgH) (h0 : ¬ (evT h k).k = 0) : ((evT h k).k = 24) ∨ ((evT h k).k = 25 ∧ ((evT h k).v = 0 ∨ (evT h k).v = 1)) := by
  rcases evT_ok hr hk with h | ⟨h, _⟩ | ⟨h, hv⟩
  · rw [h] at h0; exact absurd rfl h0
  · exact .inl h
  · exact .inr ⟨h, hv⟩
theorem isLit_not {h : Hd} {n : Nat} (h1 : h.kind ≠ 24) (h2 : h.kind ≠ 25) : isLit h n = false := by unfold isLit; simp [h1, h2]
theorem evT_31 {h kh : Hd} {kk : Fo} (e : h.kind = 31) : evT h (.cons kh kk .nil) = unL h.text.toList (evT kh kk) := by
  show evC h [evT kh kk] = _
  unfold evC
  rw [isLit_not (by omega) (by omega), ByteArray.toList_eq]
  simp [e]
theorem evT_32 {h kh kh' : Hd} {kk kk' : Fo} (e : h.kind = 32) : evT h (.cons kh kk (.cons kh' kk' .nil)) = if (evT kh kk).k = 0 then no else binL h.text.toList (evT kh kk) (evT kh' kk') := by
  show evC h [evT kh kk, evT kh' kk'] = _
  unfold evC
  rw [isLit_not (by omega) (by omega), ByteArray.toList_eq]
  by_cases z : (evT kh kk).k = 0 <;> simp [e, z]
/-- A child's answer, by its kind. -/
theorem RetK.e {c : Cv} {V : World} {e : Ending} {V' : World} (H : RetK c V e V') {ok : Bool} (h : (c.k != 0) = ok) : ∃ b, e = .returned (.tuple #[.int .i64 c.v, .bool b, .bool ok]) ∧ Below V.heap.size V V' := by
  obtain ⟨b, h1, _, h3⟩ := H; exact ⟨b, by rw [h1, h], h3⟩
theorem RetK.t {c : Cv} {V : World} {e : Ending} {V' : World} (H : RetK c V e V') {b : Bool} (h0 : c.k ≠ 0) (h : (c.k == 25) = b) : RetT c.v b true V e V' := by
  obtain ⟨b', h1, h2, h3⟩ := H
  have e1 : (c.k != 0) = true := by simpa using h0
  rw [h2 h0, h, e1] at h1
  exact ⟨h1, h3⟩
theorem un_33 (a : Cv) (ha : a.k = 25) (hv : a.v = 0 ∨ a.v = 1) : unL [33] a = ⟨25, wrap64 (1 - a.v)⟩ := by
  obtain ⟨k, v⟩ := a
  simp only at ha hv
  subst ha
  rcases hv with rfl | rfl <;> simp [unL, ofB] <;> exact (wr_id (by unfold rg; omega)).symm
theorem bin_k25 (t : Bs) (a b : Int) : (binL t ⟨25, a⟩ ⟨25, b⟩).k ≠ 0 → true = ((binL t ⟨25, a⟩ ⟨25, b⟩).k == 25) := by
  intro h
  unfold binL boolsL at *
  simp only [if_true] at *
  repeat' split at h
  all_goals first
    | (simp_all [ofB]; done)
    | (exact absurd rfl h)
theorem constant_any (nm : ByteArray → Bool) (h : Hd) (F : Fo) : CoP nm h F := by
  refine Fo.ind (P := CoP nm) ?_ h F
  clear h F
  intro h F ih hT hr hA A cap w hk
  obtain ⟨p1, p2, p3, p4⟩ := okT_parts hT
  by_cases k24 : h.kind = 24
  · obtain ⟨rfl, e, _⟩ := ev_lit hT (.inl k24)
    rw [e]
    obtain ⟨k, t, nu, p, tk, tn, r, u⟩ := h
    simp only at k24
    subst k24
    exact (co_24 t nu p tk tn r u A 0 cap w).mono fun e w' H => H.k rfl rfl (fun _ => rfl)
  by_cases k25 : h.kind = 25
  · obtain ⟨rfl, e, _⟩ := ev_lit hT (.inr k25)
    rw [e]
    obtain ⟨k, t, nu, p, tk, tn, r, u⟩ := h
    simp only at k25
    subst k25
    exact (co_25 t nu p tk tn r u A 0 cap w).mono fun e w' H => H.k rfl rfl (fun _ => rfl)
  by_cases k31 : h.kind = 31
  · rw [k31] at p3
    obtain ⟨kh, kk, rfl, _⟩ := fits_one (p := isE) p3
    rw [okF_cons, Bool.and_eq_true] at p4
    obtain ⟨g, o, A0, c0, rfl, d, hk0, hg⟩ := kids1 hk
    have hC := (ih.1).at_ (cap := c0) p4.1 hA.1 hA.2.1 hk0
    have ht : h.text.toList = [45] ∨ h.text.toList = [33] := by
      unfold textFits namedK at p1
      rw [ByteArray.toList_eq]
      simpa [k31] using p1
    rw [evT_31 k31]
    have hcases : (evT kh kk).k = 0 ∨ ((evT kh kk).k = 24) ∨ ((evT kh kk).k = 25 ∧ ((evT kh kk).v = 0 ∨ (evT kh kk).v = 1)) := by
      by_cases z : (evT kh kk).k = 0
      · exact .inl z
      · exact .inr (evT_k hA.1 hA.2.1 z)
    generalize evT kh kk = c at hC hcases ⊢
    obtain ⟨k, t, nu, p, tk, tn, r, u⟩ := h
    simp only at k31 ht ⊢
    subst k31
    rcases hcases with z | z | ⟨z, hv⟩
    · have e : unL t.toList c = no := by unfold unL; simp [z]
      rw [e]
      exact (co_31n t nu p tk tn r u g o cap w kh A0 kk.len c0 c.v d hg (Lib.hid fun V hV => (hC V hV).mono fun e V' H => H.e (by simp [z]))).mono fun e w' H => H.k rfl rfl (fun x => absurd rfl x)
    · have HK : Hid (CoA kh A0 kk.len c0 w c.v false true) := Lib.hid fun V hV => (hC V hV).mono fun e V' H => H.t (by omega) (by simp [z])
      rcases ht with ht | ht
      · obtain rfl : t = ⟨#[45]⟩ := ba_of (ht.trans (by rw [ByteArray.toList_eq]))
        have e : unL (⟨#[45]⟩ : ByteArray).toList c = ofI (-c.v) := by rw [ht]; unfold unL; simp [z]
        rw [e]
        exact (co_31a nu p tk tn r u g o cap w kh A0 kk.len c0 c.v d hg HK).mono fun e w' H => H.k rfl rfl (fun _ => rfl)
      · obtain rfl : t = ⟨#[33]⟩ := ba_of (ht.trans (by rw [ByteArray.toList_eq]))
        have e : unL (⟨#[33]⟩ : ByteArray).toList c = no := by rw [ht]; unfold unL; simp [z]
        rw [e]
        exact (co_31d nu p tk tn r u g o cap w kh A0 kk.len c0 c.v d hg HK).mono fun e w' H => H.k rfl rfl (fun x => absurd rfl x)
    · have HK : Hid (CoA kh A0 kk.len c0 w c.v true true) := Lib.hid fun V hV => (hC V hV).mono fun e V' H => H.t (by omega) (by simp [z])
      rcases ht with ht | ht
      · obtain rfl : t = ⟨#[45]⟩ := ba_of (ht.trans (by rw [ByteArray.toList_eq]))
        have e : unL (⟨#[45]⟩ : ByteArray).toList c = no := by rw [ht]; unfold unL; simp [z]
        rw [e]
        exact (co_31b nu p tk tn r u g o cap w kh A0 kk.len c0 c.v d hg HK).mono fun e w' H => H.k rfl rfl (fun x => absurd rfl x)
      · obtain rfl : t = ⟨#[33]⟩ := ba_of (ht.trans (by rw [ByteArray.toList_eq]))
        have e : unL (⟨#[33]⟩ : ByteArray).toList c = ⟨25, wrap64 (1 - c.v)⟩ := by rw [ht]; exact un_33 c z hv
        rw [e]
        exact (co_31c nu p tk tn r u g o cap w kh A0 kk.len c0 c.v d hg HK).mono fun e w' H => H.k rfl rfl (fun _ => rfl)
  by_cases k32 : h.kind = 32
  · rw [k32] at p3
    obtain ⟨kh, kk, kh', kk', rfl, _⟩ := fits_two (p := isE) (q := isE) p3
    rw [okF_cons, okF_cons, Bool.and_eq_true, Bool.and_eq_true] at p4
    obtain ⟨g, o, A0, c0, A1, c1, rfl, d, hk0, d', hk1, hg⟩ := kids2 hk
    have hC := (ih.1).at_ (cap := c0) p4.1 hA.1 hA.2.1 hk0
    have hC' := (ih.2.1).at_ (cap := c1) p4.2.1 hA.2.2.1 hA.2.2.2.1 hk1
    rw [evT_32 k32]
    have hcases : (evT kh kk).k = 0 ∨ ((evT kh kk).k = 24) ∨ ((evT kh kk).k = 25 ∧ ((evT kh kk).v = 0 ∨ (evT kh kk).v = 1)) := by
      by_cases z : (evT kh kk).k = 0
      · exact .inl z
      · exact .inr (evT_k hA.1 hA.2.1 z)
    have hcases' : (evT kh' kk').k = 0 ∨ ((evT kh' kk').k = 24) ∨ ((evT kh' kk').k = 25 ∧ ((evT kh' kk').v = 0 ∨ (evT kh' kk').v = 1)) := by
      by_cases z : (evT kh' kk').k = 0
      · exact .inl z
      · exact .inr (evT_k hA.2.2.1 hA.2.2.2.1 z)
    generalize evT kh kk = c at hC hcases ⊢
    generalize evT kh' kk' = c' at hC' hcases' ⊢
    obtain ⟨k, t, nu, p, tk, tn, r, u⟩ := h
    simp only at k32 ⊢
    subst k32
    rcases hcases with z | hz
    · rw [if_pos z]
      exact (co_32n1 t nu p tk tn r u g o cap w kh A0 kk.len c0 kh' A1 kk'.len c1 c.v c'.v (c'.k != 0) d hg (Lib.hid fun V hV => (hC V hV).mono fun e V' H => H.e (by simp [z])) d' (Lib.hid fun V hV => (hC' V hV).mono fun e V' H => H.e rfl)).mono fun e w' H => H.k rfl rfl (fun x => absurd rfl x)
    · have z0 : c.k ≠ 0 := by omega
      rw [if_neg z0]
      rcases hcases' with y | hy
      · have e : binL t.toList c c' = no := by unfold binL; rw [if_neg (by omega)]
        rw [e]
        exact (co_32n2 t nu p tk tn r u g o cap w kh A0 kk.len c0 kh' A1 kk'.len c1 c.v c'.v d hg (Lib.hid fun V hV => (hC V hV).mono fun e V' H => H.e (by simpa using z0)) d' (Lib.hid fun V hV => (hC' V hV).mono fun e V' H => H.e (by simp [y]))).mono fun e w' H => H.k rfl rfl (fun x => absurd rfl x)
      · have y0 : c'.k ≠ 0 := by omega
        have mk : ∀ b, (c.k == 25) = b → Hid (CoA kh A0 kk.len c0 w c.v b true) := fun b hb => Lib.hid fun V hV => (hC V hV).mono fun e V' H => H.t z0 hb
        have mk' : ∀ b, (c'.k == 25) = b → Hid (CoA kh' A1 kk'.len c1 w c'.v b true) := fun b hb => Lib.hid fun V hV => (hC' V hV).mono fun e V' H => H.t y0 hb
        rcases hz with z | ⟨z, hv⟩
        · rcases hy with y | ⟨y, hv'⟩
          · obtain ⟨ck, v⟩ := c
            obtain ⟨ck', v'⟩ := c'
            simp only at z y mk mk' ⊢
            subst z y
            exact (co_32r t nu p tk tn r u g o cap w kh A0 kk.len c0 kh' A1 kk'.len c1 v v' (binL t.toList ⟨24, v⟩ ⟨24, v'⟩) d hg (mk false rfl) d' (mk' false rfl) (Lib.hid fun V => rar_any t v v' V _ rfl)).mono fun e w' H => H.k rfl rfl (fun _ => rfl)
          · have e : binL t.toList c c' = no := by unfold binL; rw [if_neg (by omega)]
            rw [e]
            exact (co_32n4 t nu p tk tn r u g o cap w kh A0 kk.len c0 kh' A1 kk'.len c1 c.v c'.v d hg (mk false (by simp [z])) d' (mk' true (by simp [y]))).mono fun e w' H => H.k rfl rfl (fun x => absurd rfl x)
        · rcases hy with y | ⟨y, hv'⟩
          · have e : binL t.toList c c' = no := by unfold binL; rw [if_neg (by omega)]
            rw [e]
            exact (co_32n3 t nu p tk tn r u g o cap w kh A0 kk.len c0 kh' A1 kk'.len c1 c.v c'.v d hg (mk true (by simp [z])) d' (mk' false (by simp [y]))).mono fun e w' H => H.k rfl rfl (fun x => absurd rfl x)
          · obtain ⟨ck, v⟩ := c
            obtain ⟨ck', v'⟩ := c'
            simp only at z y mk mk' hv hv' ⊢
            subst z y
            exact (co_32l t nu p tk tn r u g o cap w kh A0 kk.len c0 kh' A1 kk'.len c1 v v' (binL t.toList ⟨25, v⟩ ⟨25, v'⟩) d hg (mk true rfl) d' (mk' true rfl) (Lib.hid fun V => rlo_any t v v' V _ hv hv' rfl)).mono fun e w' H => H.k rfl rfl (bin_k25 _ _ _)
  have e : evT h F = no := evC_other _ k24 k25 k31 k32
  rw [e]
  obtain ⟨k, t, nu, p, tk, tn, r, u⟩ := h
  exact (co_o k t nu p tk tn r u A F.len cap w (by simpa using k24) (by simpa using k25) (by simpa using k31) (by simpa using k32)).mono fun e w' H => H.k rfl rfl (fun x => absurd rfl x)

set_option maxRecDepth 100000 in
theorem replaced_b (v p : Int) (w : World) : Calls Tryz.prog 68 #[.int .i64 v, .bool true, .int .i64 p] w (Made w (litH 25 v p) .nil) := by
  go_enter Tryz.func68, Tryz.ntmps68
  go_wp2
  refine bodyPost_ret (v := nv (litH 25 v p) none 0 0) (by simp [results, Tryz.results68, go_sem, litH]) rfl ?_
  exact ⟨none, 0, rfl, Nat.le_refl _, .inl rfl, fb1 _ _⟩
set_option maxRecDepth 100000 in
theorem replaced_p (v p : Int) (w : World) (hv : decide (v < 0) = false) : Calls Tryz.prog 68 #[.int .i64 v, .bool false, .int .i64 p] w (Made w (litH 24 v p) .nil) := by
  go_enter Tryz.func68, Tryz.ntmps68
  go_wp2
  refine bodyPost_ret (v := nv (litH 24 v p) none 0 0) (by simp [results, Tryz.results68, go_sem, litH]) rfl ?_
  exact ⟨none, 0, rfl, Nat.le_refl _, .inl rfl, fb1 _ _⟩
set_option maxRecDepth 100000 in
theorem replaced_n (v p : Int) (w : World) (hv : decide (v < 0) = true) (h1 : -9223372036854775807 ≤ v) (h2 : v ≤ 0) : Calls Tryz.prog 68 #[.int .i64 v, .bool false, .int .i64 p] w (Made w (negH p) (.cons (litH 24 (-v) p) .nil .nil)) := by
  have hw : IntKind.i64.wrap (-v) = -v := IntWalk.i64_in _ (by omega)
  go_enter Tryz.func68, Tryz.ntmps68
  go_wp2
  refine bodyPost_ret (v := nv (negH p) (some ⟨w.heap.size + 1, 0, none⟩) 1 1) (by simp [results, Tryz.results68, go_sem, negH]) rfl ?_
  refine ⟨some ⟨w.heap.size + 1, 0, none⟩, 1, rfl, Nat.le_refl _, ?_, ?_⟩
  · have e := heap_alloc_new (w.alloc (.cells (nc (negH p) (some ⟨w.heap.size + 1, 0, none⟩) 1 1) 26)) (.cells (nc (litH 24 (-v) p) none 0 0) 26)
    refine one_row (t := 26) (A := none) (cap := 0) (h := litH 24 (-v) p) (k := .nil) (by simpa [negH, litH, Fo.len] using e) ⟨by omega, by simp⟩ (Nat.le_refl _) (.inl rfl)
  · repeat' (first | exact Below.refl _ _ | apply Below.setCell | apply Below.alloc | apply Below.drew)
    all_goals (try simp)
    all_goals (try omega)
theorem replaced_any (c : Cv) (b : Bool) (p : Int) (w : World) (hc : okC c) (hs : isShort c = true) (hb : b = (c.k == 25)) : Calls Tryz.prog 68 #[.int .i64 c.v, .bool b, .int .i64 p] w (Made w (shortH c p) (shortK c p)) := by
  subst hb
  obtain ⟨h0, hl⟩ := (isShort_iff c).1 hs
  have hr := okC_rg hc
  obtain ⟨k, v⟩ := c
  unfold rg least at *
  simp only at hr hl h0 ⊢
  rcases hc with hc | ⟨hk, _⟩ | ⟨hk, hv⟩
  · injection hc with a b; exact absurd a h0
  · simp only at hk
    subst hk
    by_cases x : v < 0
    · have e1 : shortH ⟨24, v⟩ p = negH p := by unfold shortH; rw [if_pos x]
      have e2 : shortK ⟨24, v⟩ p = .cons (litH 24 (-v) p) .nil .nil := by unfold shortK; rw [if_pos x]
      rw [e1, e2]
      exact replaced_n v p w (by simpa using x) (by omega) (by omega)
    · have e1 : shortH ⟨24, v⟩ p = litH 24 v p := by unfold shortH; rw [if_neg x]
      have e2 : shortK ⟨24, v⟩ p = .nil := by unfold shortK; rw [if_neg x]
      rw [e1, e2]
      exact replaced_p v p w (by simpa using x)
  · simp only at hk hv
    subst hk
    have x : ¬ v < 0 := by omega
    have e1 : shortH ⟨25, v⟩ p = litH 25 v p := by unfold shortH; rw [if_neg x]
    have e2 : shortK ⟨25, v⟩ p = .nil := by unfold shortK; rw [if_neg x]
    rw [e1, e2]
    exact replaced_b v p w

end Go.Proofs.YtnknphchjmnkcaaGreatDoor
