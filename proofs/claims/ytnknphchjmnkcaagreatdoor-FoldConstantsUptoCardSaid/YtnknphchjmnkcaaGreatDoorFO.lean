/-
  The walks of the specification's folded, at every permitted tree, of File (the program's and the specification's) and of the specification's Value (package fold).
-/
import Derived.Test.YtnknphchjmnkcaaGreatDoorFN
import Derived.Test.YtnknphchjmnkcaaGreatDoorFM
import Derived.Test.YtnknphchjmnkcaaGreatDoorRL
import Derived.Test.YtnknphchjmnkcaaGreatDoorQA
set_option linter.all false
namespace Go.Proofs.YtnknphchjmnkcaaGreatDoor
open Go.RowKit T T.Fo
theorem rg_of {h : Hd} (H : numIx h) : rgH h := by
  have h1 := H.1
  have := of_decide_eq_true (p := _ ∧ _) (by simpa [Lit.wf] using h1)
  exact this
theorem rgs_of : ∀ {F : Fo}, F.AllH numIx → F.AllH rgH
  | .nil, _ => trivial
  | .cons _ _ _, ⟨a, b, c⟩ => ⟨rg_of a, rgs_of b, rgs_of c⟩
/-- What P7.1's Value needs: what is constant is an expression that is permitted. -/
theorem bin_words {t : Bs} {a b : Cv} (h : (binL t a b).k ≠ 0) : binWords.contains t = true := by
  by_cases h0 : t = [61, 61]
  · subst h0; decide
  by_cases h1 : t = [33, 61]
  · subst h1; decide
  by_cases h2 : t = [43]
  · subst h2; decide
  by_cases h3 : t = [45]
  · subst h3; decide
  by_cases h4 : t = [42]
  · subst h4; decide
  by_cases h5 : t = [47]
  · subst h5; decide
  by_cases h6 : t = [37]
  · subst h6; decide
  by_cases h7 : t = [60]
  · subst h7; decide
  by_cases h8 : t = [60, 61]
  · subst h8; decide
  by_cases h9 : t = [62]
  · subst h9; decide
  by_cases h10 : t = [62, 61]
  · subst h10; decide
  by_cases h11 : t = [38, 38]
  · subst h11; decide
  by_cases h12 : t = [124, 124]
  · subst h12; decide
  exfalso
  apply h
  unfold binL
  by_cases e : a.k = b.k
  · rw [if_pos e, if_neg h0, if_neg h1]
    by_cases f : a.k = 24
    · rw [if_pos f]
      unfold intsL
      rw [if_neg h2, if_neg h3, if_neg h4, if_neg h5, if_neg h6, if_neg h7, if_neg h8, if_neg h9, if_neg h10]
      rfl
    · rw [if_neg f]
      unfold boolsL
      rw [if_neg h11, if_neg h12]
      rfl
  · rw [if_neg e]; rfl
theorem un_words {t : Bs} {a : Cv} (h : (unL t a).k ≠ 0) : t = [45] ∨ t = [33] := by
  unfold unL at h
  repeat' split at h
  all_goals first
    | (exact absurd rfl h)
    | (rename_i x; exact .inl x.1)
    | (rename_i _ x; exact .inr x.1)
theorem ev_ok (nm : ByteArray → Bool) (h : Hd) (k : Fo) : (evT h k).k ≠ 0 → exprK h.kind = true ∧ okT nm h k = true := by
  refine Fo.ind (P := fun h k => (evT h k).k ≠ 0 → exprK h.kind = true ∧ okT nm h k = true) ?_ h k
  clear h k
  intro h k ih h0
  by_cases hl : isLit h k.len = true
  · have hl0 := hl
    unfold isLit at hl
    simp only [Bool.and_eq_true, Bool.or_eq_true, beq_iff_eq, decide_eq_true_eq] at hl
    obtain ⟨⟨h1, h2⟩, h3⟩ := hl
    obtain rfl := len_zero h2
    rcases h3 with ⟨h3, h4⟩ | ⟨h3, h4⟩
    · refine ⟨by rw [h3]; rfl, ?_⟩
      unfold okT childrenFit textFits numFits namedK
      simp [h1, h3, h4, places, fits, okF, Fo.len]
    · refine ⟨by rw [h3]; rfl, ?_⟩
      unfold okT childrenFit textFits numFits namedK
      rcases h4 with h4 | h4 <;> simp [h1, h3, h4, places, fits, okF, Fo.len]
  · have hl' : isLit h k.len = false := by simpa using hl
    match k, ih with
    | .nil, _ =>
      have e' : evT h .nil = no := by
        show evC h [] = _
        unfold evC
        rw [show isLit h ([] : List Cv).length = false from hl']
        rfl
      rw [e'] at h0; exact absurd rfl h0
    | .cons kh kk .nil, ih =>
      have e' : evT h (.cons kh kk .nil) = if h.kind = 31 then unL h.text.data.toList (evT kh kk) else no := by
        show evC h [evT kh kk] = _
        unfold evC
        rw [show isLit h [evT kh kk].length = false from hl']
        rfl
      by_cases k31 : h.kind = 31
      · rw [e', if_pos k31] at h0
        have hk : (evT kh kk).k ≠ 0 := fun z => h0 (by unfold unL; simp [z, no])
        obtain ⟨x, y⟩ := ih.1 hk
        refine ⟨by rw [k31]; rfl, ?_⟩
        have ht := un_words h0
        unfold okT childrenFit textFits numFits namedK
        rw [okF_cons, y]
        rcases ht with ht | ht <;> simp [k31, ht, places, fits, okF, Fo.len, isE, x]
      · rw [e', if_neg k31] at h0; exact absurd rfl h0
    | .cons kh kk (.cons kh' kk' .nil), ih =>
      have e' : evT h (.cons kh kk (.cons kh' kk' .nil)) = if h.kind = 32 ∧ (evT kh kk).k ≠ 0 then binL h.text.data.toList (evT kh kk) (evT kh' kk') else no := by
        show evC h [evT kh kk, evT kh' kk'] = _
        unfold evC
        rw [show isLit h [evT kh kk, evT kh' kk'].length = false from hl']
        rfl
      by_cases k32 : h.kind = 32 ∧ (evT kh kk).k ≠ 0
      · rw [e', if_pos k32] at h0
        have hk' : (evT kh' kk').k ≠ 0 := fun z => h0 (by unfold binL; rw [if_neg (by rw [z]; exact k32.2)]; rfl)
        obtain ⟨x, y⟩ := ih.1 k32.2
        obtain ⟨x', y'⟩ := ih.2.1 hk'
        refine ⟨by rw [k32.1]; rfl, ?_⟩
        have ht := bin_words h0
        unfold okT childrenFit textFits numFits namedK T.isBinary
        rw [okF_cons, okF_cons, y, y', ht]
        simp [k32.1, places, fits, okF, Fo.len, isE, x, x']
      · rw [e', if_neg k32] at h0; exact absurd rfl h0
    | .cons a1 a2 (.cons b1 b2 (.cons d1 d2 d3)), _ =>
      have e' : evT h (.cons a1 a2 (.cons b1 b2 (.cons d1 d2 d3))) = no := by
        show evC h (evT a1 a2 :: evT b1 b2 :: evT d1 d2 :: evF d3) = _
        unfold evC
        have hq : isLit h (evT a1 a2 :: evT b1 b2 :: evT d1 d2 :: evF d3).length = false := by
          have : (evT a1 a2 :: evT b1 b2 :: evT d1 d2 :: evF d3).length = (Fo.cons a1 a2 (.cons b1 b2 (.cons d1 d2 d3))).len := by simp [Fo.len, evF_len]
          rw [this]; exact hl'
        rw [hq]
        rfl
      rw [e'] at h0; exact absurd rfl h0
theorem pl_if {h : Hd} (hp : isPl h) (e : h.kind = 18) (ht : h.text.data.toList = []) : ifH h.pos = h := by
  unfold isPl plH counts at hp
  rw [← hp]
  obtain ⟨k, t, nu, p, tk, tn, r, u⟩ := h
  simp only at e ht hp ⊢
  subst e
  have : t = ⟨#[]⟩ := ByteArray.ext (Array.toList_inj.1 ht)
  subst this
  rfl
theorem pl_plain {h : Hd} (hp : isPl h) (h1 : h.kind ≠ 24) (h2 : h.kind ≠ 25) : plainH h = h := by
  unfold isPl plH counts at hp
  obtain ⟨k, t, nu, p, tk, tn, r, u⟩ := h
  simp only at h1 h2
  simp [h1, h2] at hp
  obtain ⟨rfl, rfl, rfl, rfl, rfl⟩ := hp
  rfl
theorem kids_fd {nmv' : ByteArray → Bool} {w : World} : ∀ {F : Fo}, F.All FdP → okF nmv F = true → F.AllH numIx → F.cnt ≤ 1048576 → F.AllH isPl → F.All (FdA w)
  | .nil, _, _, _, _, _ => trivial
  | .cons h k r, ⟨a, b⟩, o, ⟨n1, n2, n3⟩, c, ⟨p1, p2, p3⟩ => by
    rw [okF_cons, Bool.and_eq_true] at o
    simp only [Fo.cnt] at c
    exact ⟨fun A cap V hk => a o.1 ⟨n1, n2, by omega⟩ (rg_of n1) (rgs_of n2) p1 p2 A cap V hk, kids_fd (nmv' := nmv') b o.2 n3 (by omega) p3⟩

theorem folded_w (h : Hd) (F : Fo) (ih : F.All FdP) : FdP h F := by
  intro hT hO hr hA hp hpA A cap w hk
  obtain ⟨p1, p2, p3, p4⟩ := okT_parts hT
  have hcnt := hO.2.2
  have ihA : F.All (FdA w) := kids_fd (nmv' := nmv) ih p4 hO.2.1 hcnt hpA
  have hE : ∀ V, Below w.heap.size w V → CB' 36 V (nv h A F.len cap) (exOk nmv h F) := fun V hV => (five_any h F hO).1 A cap V (kidsV hk hV)
  have hC : ∀ V, Below w.heap.size w V → Calls Tryz.prog 37 #[nv h A F.len cap] V (RetK (evT h F) V) := (constant_any nmv h F).at_ hT hr hA hk
  by_cases e18 : h.kind = 18
  · have hx : exOk nmv h F = false := by unfold exOk; rw [e18]; rfl
    rw [hx] at hE
    have ht : h.text.data.toList = [] := by
      unfold textFits namedK at p1
      simpa [e18] using p1
    obtain ⟨h0, k0, h1, k1, h2, k2, rfl, q0, q1, q2, t0, t1, t2⟩ := if_kids hT e18
    have hk' := hk
    obtain ⟨g, o, A0, c0, A1, c1, A2, c2, rfl, d, hk0, e, hk1, f, hk2, hg, l1, l2⟩ := kids3S hk'
    have hC0 : ∀ V, Below w.heap.size w V → Calls Tryz.prog 37 #[nv h0 A0 k0.len c0] V (RetK (evT h0 k0) V) := (constant_any nmv h0 k0).at_ t0 hA.1 hA.2.1 hk0
    have efo : foT h (.cons h0 k0 (.cons h1 k1 (.cons h2 k2 .nil))) = if (evT h0 k0).k = 0 then (ifH h.pos, foF (.cons h0 k0 (.cons h1 k1 (.cons h2 k2 .nil)))) else if (evT h0 k0).v = 1 then foT h1 k1 else if (foT h2 k2).1.kind = 9 then (blkH h.pos, .nil) else foT h2 k2 := by
      unfold foT bld
      rw [if_pos e18]
      have := evT_fo (nm := nmv) t0 hA.1 hA.2.1
      show (if (evT (foT h0 k0).1 (foT h0 k0).2).k = 0 then _ else if (evT (foT h0 k0).1 (foT h0 k0).2).v = 1 then _ else _) = _
      rw [this]
      rfl
    have k9 : (foT h2 k2).1.kind = 9 ↔ h2.kind = 9 := by
      constructor
      · intro x
        by_cases y : h2.kind = 9
        · exact y
        · rcases kind_fo t2 hA.2.2.2.2.1 hA.2.2.2.2.2.1 with ⟨z, _⟩ | ⟨_, z, _⟩ | ⟨_, z⟩ <;> omega
      · intro y
        rw [same_fo t2 hA.2.2.2.2.1 hA.2.2.2.2.2.1 (by omega) (by omega) (by omega), y]
    rw [efo]
    obtain ⟨k, t, nu, p, tk, tn, r, u⟩ := h
    simp only at e18
    subst e18
    by_cases z : (evT h0 k0).k = 0
    · rw [if_pos z, pl_if hp rfl ht]
      exact fd_i0 t nu p tk tn r u _ _ cap w ihA hk (by omega) (Lib.hid hE) g o rfl h0 A0 k0.len c0 d hg (by simp only [Fo.len]; omega) _ (Lib.hid fun V hV => (hC0 V hV).mono fun e V' H => H.e (by simp [z]))
    · rw [if_neg z]
      have HK : Hid (KoA h0 A0 k0.len c0 w (evT h0 k0).v true) := Lib.hid fun V hV => (hC0 V hV).mono fun e V' H => H.e (by simpa using z)
      by_cases v : (evT h0 k0).v = 1
      · rw [if_pos v]
        exact fd_i1 t nu p tk tn r u g o cap w h0 h1 h2 A0 A1 A2 k0.len k1.len k2.len c0 c1 c2 d e f hg _ (Lib.hid hE) HK (by simpa using v) _ _ (Lib.hid fun V hV => ihA.2.1 A1 c1 V (kidsV hk1 hV))
      · rw [if_neg v]
        by_cases n : h2.kind = 9
        · rw [if_pos (k9.2 n)]
          exact fd_i2 t nu p tk tn r u g o cap w h0 h1 h2 A0 A1 A2 k0.len k1.len k2.len c0 c1 c2 d e f hg _ (Lib.hid hE) HK (by simpa using v) (by simpa using n)
        · rw [if_neg (fun x => n (k9.1 x))]
          exact fd_i3 t nu p tk tn r u g o cap w h0 h1 h2 A0 A1 A2 k0.len k1.len k2.len c0 c1 c2 d e f hg _ (Lib.hid hE) HK (by simpa using v) (by simpa using n) _ _ (Lib.hid fun V hV => ihA.2.2.1 A2 c2 V (kidsV hk2 hV))
  · have efo : foT h F = if isShort (evT h F) then (shortH (evT h F) h.pos, shortK (evT h F) h.pos) else (plainH h, foF F) := by
      unfold foT bld
      rw [if_neg e18, evT_foK hT hr hA]
    have ok := evT_ok hr hA
    by_cases s : isShort (evT h F) = true
    · rw [efo, if_pos s]
      obtain ⟨s0, s1⟩ := (isShort_iff _).1 s
      have hx : exOk nmv h F = true := by
        obtain ⟨a, b⟩ := ev_ok nmv h F s0
        unfold exOk; rw [a, b]; rfl
      rw [hx] at hE
      obtain ⟨k, t, nu, p, tk, tn, r, u⟩ := h
      have HP := fun V => replaced_any (evT ⟨k, t, nu, p, tk, tn, r, u⟩ F) _ p V ok s rfl
      exact fd_s k t nu p tk tn r u A F.len cap w _ _ _ _ (by simpa [least] using s1) (Lib.hid hE) (Lib.hid fun V hV => (hC V hV).mono fun e V' H => H.t s0 rfl) (Lib.hid fun V _ => HP V)
    · rw [efo, if_neg s]
      have l : ¬ (h.kind = 24 ∨ h.kind = 25) := fun l => by
        obtain ⟨_, x, y⟩ := ev_lit hT l
        apply s
        rw [x, isShort_iff]
        unfold least; simp only; omega
      rw [pl_plain hp (by omega) (by omega)]
      by_cases x : exOk nmv h F = true
      · rw [x] at hE
        by_cases z : (evT h F).k = 0
        · obtain ⟨k, t, nu, p, tk, tn, r, u⟩ := h
          exact fd_e0 k t nu p tk tn r u F A cap w ihA hk hcnt (Lib.hid hE) (by simpa using e18) _ (Lib.hid fun V hV => (hC V hV).mono fun e V' H => H.e (by simp [z]))
        · have hv : (evT h F).v = -9223372036854775808 := by
            by_cases y : (evT h F).v = least
            · exact y
            · exact absurd ((isShort_iff _).2 ⟨z, y⟩) s
          obtain ⟨k, t, nu, p, tk, tn, r, u⟩ := h
          exact fd_e1 k t nu p tk tn r u F A cap w ihA hk hcnt (Lib.hid hE) (by simpa using e18) (Lib.hid fun V hV => (hC V hV).mono fun e V' H => by have := H.e (ok := true) (by simpa using z); rwa [hv] at this)
      · have x' : exOk nmv h F = false := by simpa using x
        rw [x'] at hE
        obtain ⟨k, t, nu, p, tk, tn, r, u⟩ := h
        exact fd_o k t nu p tk tn r u F A cap w ihA hk hcnt (Lib.hid hE) (by simpa using e18)
theorem rfolded_any (h : Hd) (F : Fo) : FdP h F := Fo.ind (P := FdP) folded_w h F

end Go.Proofs.YtnknphchjmnkcaaGreatDoor
