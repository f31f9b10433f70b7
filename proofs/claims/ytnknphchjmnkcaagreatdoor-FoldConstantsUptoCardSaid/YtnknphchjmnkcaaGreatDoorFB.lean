/-
  Plain mathematics of constant folding: the folded tree is permitted, no larger, and folding again changes nothing; constants in it. No program text is reached here.
-/
import Derived.Test.YtnknphchjmnkcaaGreatDoorFA

set_option linter.all false
namespace Go.Proofs.YtnknphchjmnkcaaGreatDoor.T
set_option linter.unusedVariables false
open Fo

section
variable {nm : ByteArray → Bool}

/-! ### Size -/
theorem short_nil {h : Hd} {K : Fo} (hr : rgH h) (hK : K = .nil) : (evT h K).v < 0 → False := by
  subst hK
  unfold evT evC evF
  intro x
  split at x
  · rename_i hl
    have := (isLit_ok hr hl).2.2.1
    simp only at x; omega
  · simp [no] at x
theorem shortK_small {h : Hd} {K : Fo} (hr : rgH h) : (shortK (evT h K) h.pos).cnt ≤ K.cnt ∧ (shortK (evT h K) h.pos).dep ≤ K.dep := by
  unfold shortK
  by_cases x : (evT h K).v < 0
  · rw [if_pos x]
    cases K with
    | nil => exact absurd x (fun y => short_nil hr rfl y)
    | cons a b c => simp only [cnt, dep]; omega
  · rw [if_neg x]; simp [cnt, dep]
theorem nthF_small (K : Fo) : ∀ i, i < K.len → (nthF K i).2.cnt + 1 ≤ K.cnt ∧ (nthF K i).2.dep + 1 ≤ K.dep := by
  induction K with
  | nil => intro i hi; simp [len] at hi
  | cons h k r _ ihr =>
    intro i hi
    cases i with
    | zero => simp only [nthF, cnt, dep]; omega
    | succ i =>
      have := ihr i (by simp only [len] at hi; omega)
      simp only [nthF, cnt, dep]; omega
theorem bld_small {h : Hd} {K : Fo} (hr : rgH h) (h3 : h.kind = 18 → K.len = 3) : (bld h K).2.cnt ≤ K.cnt ∧ (bld h K).2.dep ≤ K.dep := by
  unfold bld
  by_cases e : h.kind = 18
  · rw [if_pos e]
    have l3 := h3 e
    have n1 := nthF_small K 1 (by omega)
    have n2 := nthF_small K 2 (by omega)
    refine condT_ind (P := fun x => x.2.cnt ≤ K.cnt ∧ x.2.dep ≤ K.dep) (fun _ => ⟨Nat.le_refl _, Nat.le_refl _⟩) (by omega) (by simp [cnt, dep]) (fun _ => by omega)
  · rw [if_neg e]
    split
    · exact shortK_small hr
    · exact ⟨Nat.le_refl _, Nat.le_refl _⟩
theorem if_len {h : Hd} {k : Fo} (H : okT nm h k = true) (e : h.kind = 18) : k.len = 3 := by
  obtain ⟨h0, k0, h1, k1, h2, k2, rfl, _⟩ := if_kids H e
  rfl
theorem fo_small : ∀ (F : Fo), okF nm F = true → F.AllH rgH → (foF F).cnt ≤ F.cnt ∧ (foF F).dep ≤ F.dep := by
  intro F
  induction F with
  | nil => intro _ _; exact ⟨Nat.le_refl _, Nat.le_refl _⟩
  | cons h k r ihk ihr =>
    intro hF hA
    rw [okF_cons, Bool.and_eq_true] at hF
    have a := ihk (okT_parts hF.1).2.2.2 hA.2.1
    have b := ihr hF.2 hA.2.2
    have c := bld_small (K := foF k) hA.1 (fun e => by rw [foF_len]; exact if_len hF.1 e)
    rw [foF_cons]
    simp only [cnt, dep]
    unfold foT
    omega

/-! ### Ranges -/
theorem neg_rg {c : Cv} (hc : okC c) (hs : isShort c = true) (hv : c.v < 0) : rg (-c.v) := by
  have h1 := okC_rg hc
  have h2 := ((isShort_iff c).1 hs).2
  unfold rg least at *
  omega
theorem nthF_all {P : Hd → Prop} {K : Fo} (hK : K.AllH P) : ∀ i, i < K.len → P (nthF K i).1 ∧ (nthF K i).2.AllH P := by
  induction K with
  | nil => intro i hi; simp [len] at hi
  | cons h k r _ ihr =>
    intro i hi
    cases i with
    | zero => exact ⟨hK.1, hK.2.1⟩
    | succ i => exact ihr hK.2.2 i (by simp only [len] at hi; omega)
theorem rg0 : rg 0 := by unfold rg; omega
theorem bld_rg {h : Hd} {K : Fo} (hr : rgH h) (hK : K.AllH rgH) (h3 : h.kind = 18 → K.len = 3) : rgH (bld h K).1 ∧ (bld h K).2.AllH rgH := by
  unfold bld
  by_cases e : h.kind = 18
  · rw [if_pos e]
    have l3 := h3 e
    exact condT_ind (P := fun x => rgH x.1 ∧ x.2.AllH rgH) (fun _ => ⟨rg0, hK⟩) (nthF_all hK 1 (by omega)) ⟨rg0, trivial⟩ (fun _ => nthF_all hK 2 (by omega))
  · rw [if_neg e]
    split
    · rename_i hs
      have ok := evT_ok hr hK
      unfold shortH shortK
      by_cases x : (evT h K).v < 0
      · rw [if_pos x, if_pos x]
        exact ⟨rg0, neg_rg ok hs x, trivial, trivial⟩
      · rw [if_neg x, if_neg x]
        exact ⟨okC_rg ok, trivial⟩
    · exact ⟨rg0, hK⟩
theorem fo_rg : ∀ (F : Fo), okF nm F = true → F.AllH rgH → (foF F).AllH rgH := by
  intro F
  induction F with
  | nil => intro _ _; trivial
  | cons h k r ihk ihr =>
    intro hF hA
    rw [okF_cons, Bool.and_eq_true] at hF
    have a := ihk (okT_parts hF.1).2.2.2 hA.2.1
    have c := bld_rg (K := foF k) hA.1 a (fun e => by rw [foF_len]; exact if_len hF.1 e)
    rw [foF_cons]
    exact ⟨c.1, c.2, ihr hF.2 hA.2.2⟩

/-! ### Permitted -/
theorem short_kind {c : Cv} (hc : okC c) (hs : isShort c = true) (p : Int) : (shortH c p).kind = 24 ∨ (shortH c p).kind = 25 ∨ (shortH c p).kind = 31 := by
  unfold shortH
  split
  · exact .inr (.inr rfl)
  · rcases okC_k hc ((isShort_iff c).1 hs).1 with h | h
    · exact .inl h
    · exact .inr (.inl h)
theorem ok_short {c : Cv} (hc : okC c) (hs : isShort c = true) (p : Int) : okT nm (shortH c p) (shortK c p) = true := by
  obtain ⟨h0, hl⟩ := (isShort_iff c).1 hs
  obtain ⟨ck, cvv⟩ := c
  have lit : ∀ k v, (k = 24 ∧ 0 ≤ v ∨ k = 25 ∧ (v = 0 ∨ v = 1)) → okT nm (litH k v p) .nil = true := by
    intro k v hk
    unfold okT childrenFit textFits numFits litH namedK
    rcases hk with ⟨rfl, h⟩ | ⟨rfl, h⟩
    · simp [places, fits, okF, Fo.len, h]
    · rcases h with h | h <;> simp [places, fits, okF, Fo.len, h]
  unfold shortH shortK
  by_cases x : cvv < 0
  · rw [if_pos x, if_pos x]
    have hk : ck = 24 := by
      rcases hc with hc | ⟨hk, _⟩ | ⟨hk, hv⟩
      · injection hc with a b; omega
      · exact hk
      · simp only at hv; omega
    subst hk
    have := lit 24 (-cvv) (.inl ⟨rfl, by omega⟩)
    have e : okT nm (negH p) (.cons (litH 24 (-cvv) p) .nil .nil) = okT nm (litH 24 (-cvv) p) .nil := by
      rw [show okT nm (negH p) (.cons (litH 24 (-cvv) p) .nil .nil) = (textFits nm (negH p) && numFits (negH p) && childrenFit (negH p) (.cons (litH 24 (-cvv) p) .nil .nil) && okF nm (.cons (litH 24 (-cvv) p) .nil .nil)) from rfl]
      rw [okF_cons]
      have a1 : textFits nm (negH p) = true := by unfold textFits namedK negH; simp
      have a2 : numFits (negH p) = true := by unfold numFits negH; simp
      have a3 : childrenFit (negH p) (.cons (litH 24 (-cvv) p) .nil .nil) = true := by unfold childrenFit negH litH; simp [places, fits, isE, exprK, Fo.len]
      rw [a1, a2, a3]; simp [okF]
    rw [e]; exact this
  · rw [if_neg x, if_neg x]
    refine lit ck cvv ?_
    rcases hc with hc | ⟨hk, _⟩ | ⟨hk, hv⟩
    · injection hc with a b; exact absurd a h0
    · exact .inl ⟨hk, by omega⟩
    · exact .inr ⟨hk, hv⟩
theorem lastK_nil : lastK .nil = 0 := rfl
/-- The kind of a folded tree. -/
theorem kind_fo {h : Hd} {k : Fo} (hT : okT nm h k = true) (hr : rgH h) (hA : k.AllH rgH) :
    (foT h k).1.kind = h.kind ∧ h.kind ≠ 18 ∨ (exprK h.kind = true ∧ (h.kind = 31 ∨ h.kind = 32) ∧ ((foT h k).1.kind = 24 ∨ (foT h k).1.kind = 25 ∨ (foT h k).1.kind = 31)) ∨ (h.kind = 18 ∧ ((foT h k).1.kind = 18 ∨ (foT h k).1.kind = 10)) := by
  by_cases e : h.kind = 18
  · right; right
    refine ⟨e, ?_⟩
    obtain ⟨h0, k0, h1, k1, h2, k2, rfl, q0, q1, q2, t0, t1, t2⟩ := if_kids hT e
    -- the third child, one level further
    have go : ∀ (h2 : Hd) (k2 : Fo), okT nm h2 k2 = true → (h2.kind = 9 ∨ h2.kind = 10 ∨ h2.kind = 18) → ((foT h2 k2).1.kind = 9 ∨ (foT h2 k2).1.kind = 10 ∨ (foT h2 k2).1.kind = 18) ∧ (h2.kind = 9 → (foT h2 k2).1.kind = 9) := by
      intro h2 k2
      have : ∀ (F : Fo), okF nm F = true → F.All fun h2 k2 => (h2.kind = 9 ∨ h2.kind = 10 ∨ h2.kind = 18) → ((foT h2 k2).1.kind = 9 ∨ (foT h2 k2).1.kind = 10 ∨ (foT h2 k2).1.kind = 18) ∧ (h2.kind = 9 → (foT h2 k2).1.kind = 9) := by
        intro F
        induction F with
        | nil => intro _; trivial
        | cons h k r ihk ihr =>
          intro hF
          rw [okF_cons, Bool.and_eq_true] at hF
          refine ⟨fun hk => ?_, ihr hF.2⟩
          by_cases e : h.kind = 18
          · refine ⟨?_, by omega⟩
            obtain ⟨h0, k0, h1, k1, h2, k2, rfl, q0, q1, q2, t0, t1, t2⟩ := if_kids hF.1 e
            have i2 := (ihk (okT_parts hF.1).2.2.2).2.2.1 q2
            unfold foT bld
            rw [if_pos e]
            refine condT_ind (P := fun x => x.1.kind = 9 ∨ x.1.kind = 10 ∨ x.1.kind = 18) (fun _ => .inr (.inr rfl)) ?_ (.inr (.inl rfl)) (fun _ => i2.1)
            have x : (foT h1 k1).1.kind = 10 := by rw [kd (by omega) (by omega) (by omega) (by omega) (by omega)]; exact q1
            exact .inr (.inl x)
          · rw [kd e (by omega) (by omega) (by omega) (by omega)]
            refine ⟨?_, fun x => x⟩
            show h.kind = 9 ∨ h.kind = 10 ∨ h.kind = 18
            exact hk
      intro hT hk
      exact (this (.cons h2 k2 .nil) (by rw [okF_cons, hT]; rfl)).1 hk
    unfold foT bld
    rw [if_pos e]
    refine condT_ind (P := fun x => x.1.kind = 18 ∨ x.1.kind = 10) (fun _ => .inl rfl) ?_ (.inr rfl) (fun z => ?_)
    · have x : (foT h1 k1).1.kind = 10 := by rw [kd (by omega) (by omega) (by omega) (by omega) (by omega)]; exact q1
      exact .inr x
    · have := go h2 k2 t2 q2
      have z' : (foT h2 k2).1.kind ≠ 9 := z
      show (foT h2 k2).1.kind = 18 ∨ (foT h2 k2).1.kind = 10
      omega
  · by_cases l : h.kind = 24 ∨ h.kind = 25
    · left
      refine ⟨?_, e⟩
      obtain ⟨rfl, x, y⟩ := ev_lit hT l
      unfold foT bld
      rw [if_neg e]
      have : evT h (foF .nil) = ⟨h.kind, h.num⟩ := x
      rw [this]
      have hs : isShort ⟨h.kind, h.num⟩ = true := by rw [isShort_iff]; unfold least; simp only; omega
      rw [if_pos hs]
      unfold shortH
      rw [if_neg (by simp only; omega)]
      rfl
    · by_cases u : h.kind = 31 ∨ h.kind = 32
      · unfold foT bld
        rw [if_neg e]
        by_cases s : isShort (evT h (foF k)) = true
        · right; left
          rw [if_pos s]
          refine ⟨by rcases u with u | u <;> rw [u] <;> rfl, u, ?_⟩
          rw [evT_foK hT hr hA] at s ⊢
          exact short_kind (evT_ok hr hA) s _
        · left
          rw [if_neg s]
          exact ⟨rfl, e⟩
      · left
        rw [kd e (by omega) (by omega) (by omega) (by omega)]
        exact ⟨rfl, e⟩
theorem expr_fo {h : Hd} {k : Fo} (hT : okT nm h k = true) (hr : rgH h) (hA : k.AllH rgH) (e : exprK h.kind = true) : exprK (foT h k).1.kind = true := by
  rcases kind_fo hT hr hA with ⟨x, _⟩ | ⟨_, _, x⟩ | ⟨x, _⟩
  · rw [x]; exact e
  · rcases x with x | x | x <;> rw [x] <;> rfl
  · rw [x] at e; cases e
theorem same_fo {h : Hd} {k : Fo} (hT : okT nm h k = true) (hr : rgH h) (hA : k.AllH rgH) (e1 : h.kind ≠ 18) (e2 : h.kind ≠ 31) (e3 : h.kind ≠ 32) : (foT h k).1.kind = h.kind := by
  rcases kind_fo hT hr hA with ⟨x, _⟩ | ⟨_, x, _⟩ | ⟨x, _⟩
  · exact x
  · omega
  · exact absurd x e1
theorem lastK_fo (n : Int) (hn : n = 9 ∨ n = 33) : ∀ (F : Fo), okF nm F = true → F.AllH rgH → lastK F = n → lastK (foF F) = n := by
  intro F
  induction F with
  | nil => intro _ _ h; exact h
  | cons h k r _ ihr =>
    intro hF hA hl
    rw [okF_cons, Bool.and_eq_true] at hF
    cases r with
    | nil =>
      have hl' : h.kind = n := hl
      show (foT h k).1.kind = n
      rw [same_fo hF.1 hA.1 hA.2.1 (by omega) (by omega) (by omega), hl']
    | cons h' k' r' => exact ihr hF.2 hA.2.2 hl
/-- A set of trees that folding does not leave. -/
def Stb (nm : ByteArray → Bool) (p : Pl) : Prop := ∀ h k, okT nm h k = true → rgH h → k.AllH rgH → p h k = true → p (foT h k).1 (foT h k).2 = true
theorem stb_one {l : List Int} (h18 : (18 : Int) ∉ l ∨ ((18 : Int) ∈ l ∧ (10 : Int) ∈ l)) (h31 : (31 : Int) ∉ l) (h32 : (32 : Int) ∉ l) : Stb nm (one l) := by
  intro h k hT hr hA hp
  have hk := one_kind hp
  unfold one
  rcases kind_fo hT hr hA with ⟨x, _⟩ | ⟨_, x, _⟩ | ⟨x, y⟩
  · rw [x]; simpa using hk
  · rcases x with x | x <;> rw [x] at hk
    · exact absurd hk h31
    · exact absurd hk h32
  · rw [x] at hk
    rcases h18 with h | h
    · exact absurd hk h
    · rcases y with y | y <;> rw [y]
      · simpa using h.1
      · simpa using h.2
theorem stb_isE : Stb nm isE := fun h k hT hr hA hp => expr_fo hT hr hA hp
theorem stb_isT : Stb nm isT := fun h k hT hr hA hp => by
  have e : h.kind = 7 ∨ h.kind = 8 := by unfold isT typeK at hp; simpa using hp
  unfold isT
  rw [same_fo hT hr hA (by omega) (by omega) (by omega)]
  exact hp
theorem stb_isS : Stb nm isS := fun h k hT hr hA hp => by
  unfold isS at hp ⊢
  rcases kind_fo hT hr hA with ⟨x, _⟩ | ⟨_, x, _⟩ | ⟨x, y⟩
  · rw [x]; exact hp
  · rcases x with x | x <;> rw [x] at hp <;> cases hp
  · rcases y with y | y <;> rw [y] <;> rfl
theorem stb_opt {p : Pl} (hp : Stb nm p) : Stb nm (opt p) := fun h k hT hr hA ho => by
  unfold opt at ho ⊢
  rw [Bool.or_eq_true] at ho ⊢
  rcases ho with ho | ho
  · left
    have e : h.kind = 9 := by simpa using ho
    rw [same_fo hT hr hA (by omega) (by omega) (by omega)]
    exact ho
  · exact .inr (hp h k hT hr hA ho)
theorem stb_decl : Stb nm declT := fun h k hT hr hA hp => by
  unfold declT at hp ⊢
  simp only [Bool.or_eq_true, Bool.and_eq_true, beq_iff_eq] at hp ⊢
  have e : h.kind = 2 ∨ h.kind = 4 ∨ h.kind = 6 := by omega
  rw [kd (by omega) (by omega) (by omega) (by omega) (by omega)]
  show (h.kind = 2 ∨ h.kind = 4) ∨ h.kind = 6 ∧ lastK (foF k) = 9
  rcases hp with hp | ⟨a, b⟩
  · exact .inl hp
  · exact .inr ⟨a, lastK_fo 9 (.inl rfl) k (okT_parts hT).2.2.2 hA b⟩
theorem stb_comm : Stb nm commT := fun h k hT hr hA hp => by
  unfold commT at hp ⊢
  simp only [Bool.or_eq_true, Bool.and_eq_true, beq_iff_eq] at hp ⊢
  have e : h.kind = 16 ∨ h.kind = 13 ∨ h.kind = 12 ∨ h.kind = 11 := by omega
  rw [kd (by omega) (by omega) (by omega) (by omega) (by omega)]
  show h.kind = 16 ∨ ((h.kind = 13 ∨ h.kind = 12) ∨ h.kind = 11) ∧ lastK (foF k) = 33
  rcases hp with hp | ⟨a, b⟩
  · exact .inl hp
  · exact .inr ⟨a, lastK_fo 33 (.inr rfl) k (okT_parts hT).2.2.2 hA b⟩
theorem stb_places (kind : Int) (n : Nat) : ∀ p ∈ places kind n, Stb nm p := by
  have rep : ∀ {q : Pl} {m : Nat}, Stb nm q → ∀ p ∈ List.replicate m q, Stb nm p := fun hq p hp => by
    rw [(List.mem_replicate.1 hp).2]; exact hq
  have nl : ∀ p ∈ ([] : List Pl), Stb nm p := fun p hp => by cases hp
  have cn : ∀ {q : Pl} {l : List Pl}, Stb nm q → (∀ p ∈ l, Stb nm p) → ∀ p ∈ q :: l, Stb nm p := fun hq hl p hp => by
    rcases List.mem_cons.1 hp with rfl | hp
    · exact hq
    · exact hl p hp
  have o3 : Stb nm (one [3]) := stb_one (by decide) (by decide) (by decide)
  have o5 : Stb nm (one [5]) := stb_one (by decide) (by decide) (by decide)
  have o10 : Stb nm (one [10]) := stb_one (by decide) (by decide) (by decide)
  have o23 : Stb nm (one [23]) := stb_one (by decide) (by decide) (by decide)
  have o30 : Stb nm (one [30]) := stb_one (by decide) (by decide) (by decide)
  have o33 : Stb nm (one [30, 33]) := stb_one (by decide) (by decide) (by decide)
  have o18 : Stb nm (one [10, 18]) := stb_one (by decide) (by decide) (by decide)
  have it : ∀ {c : Prop} [Decidable c] {a b : List Pl}, (∀ p ∈ a, Stb nm p) → (∀ p ∈ b, Stb nm p) → ∀ p ∈ (if c then a else b), Stb nm p := by
    intro c _ a b ha hb
    by_cases h : c
    · rw [if_pos h]; exact ha
    · rw [if_neg h]; exact hb
  unfold places
  repeat' (refine it ?_ ?_)
  all_goals first
    | exact nl
    | exact rep stb_decl
    | exact rep o3
    | exact rep o23
    | exact rep stb_isS
    | exact rep stb_isE
    | exact cn stb_isT nl
    | exact cn stb_isE nl
    | exact cn o33 nl
    | exact cn o30 nl
    | exact cn o10 nl
    | exact cn stb_isE (cn stb_isE nl)
    | exact cn stb_isT (cn (stb_opt stb_isE) nl)
    | exact cn o5 (cn (stb_opt stb_isT) (cn o10 nl))
    | exact cn stb_isE (cn o10 (cn (stb_opt o18) nl))
    | exact cn (stb_opt stb_isE) (cn o10 nl)
    | exact cn (stb_opt stb_comm) (cn o10 nl)
theorem fits_fo : ∀ (l : List Pl) (F : Fo), (∀ p ∈ l, Stb nm p) → okF nm F = true → F.AllH rgH → fits l F = true → fits l (foF F) = true
  | [], .nil, _, _, _, _ => rfl
  | [], .cons _ _ _, _, _, _, h => by simp [fits] at h
  | _ :: _, .nil, _, _, _, h => by simp [fits] at h
  | p :: l, .cons h k r, hl, hF, hA, hf => by
    rw [okF_cons, Bool.and_eq_true] at hF
    simp only [fits, Bool.and_eq_true] at hf
    rw [foF_cons]
    simp only [fits, Bool.and_eq_true]
    exact ⟨hl p (List.mem_cons_self ..) h k hF.1 hA.1 hA.2.1 hf.1, fits_fo l r (fun q hq => hl q (List.mem_cons_of_mem _ hq)) hF.2 hA.2.2 hf.2⟩
theorem nthF_ok {K : Fo} (hK : okF nm K = true) : ∀ i, i < K.len → okT nm (nthF K i).1 (nthF K i).2 = true := by
  induction K with
  | nil => intro i hi; simp [len] at hi
  | cons h k r _ ihr =>
    intro i hi
    rw [okF_cons, Bool.and_eq_true] at hK
    cases i with
    | zero => exact hK.1
    | succ i => exact ihr hK.2 i (by simp only [len] at hi; omega)
/-- P7.2: the folded tree is permitted. -/
theorem ok_fo : ∀ (F : Fo), okF nm F = true → F.AllH rgH → okF nm (foF F) = true := by
  intro F
  induction F with
  | nil => intro _ _; rfl
  | cons h k r ihk ihr =>
    intro hF hA
    have hF0 := hF
    rw [okF_cons, Bool.and_eq_true] at hF
    obtain ⟨hT, hR⟩ := hF
    obtain ⟨p1, p2, p3, p4⟩ := okT_parts hT
    have ik := ihk p4 hA.2.1
    rw [foF_cons, okF_cons, ihr hR hA.2.2, Bool.and_true]
    have pl : h.kind ≠ 18 → okT nm (plainH h) (foF k) = true := fun _ => by
      have a : textFits nm (plainH h) = true := p1
      have b : numFits (plainH h) = true := by unfold numFits plainH; simp only; repeat' split <;> simp
      have c : childrenFit (plainH h) (foF k) = true := by
        show fits (places h.kind (foF k).len) (foF k) = true
        rw [foF_len]
        exact fits_fo _ k (stb_places _ _) p4 hA.2.1 p3
      rw [show okT nm (plainH h) (foF k) = (textFits nm (plainH h) && numFits (plainH h) && childrenFit (plainH h) (foF k) && okF nm (foF k)) from rfl, a, b, c, ik]
      rfl
    by_cases e : h.kind = 18
    · have l3 : (foF k).len = 3 := by rw [foF_len]; exact if_len hT e
      unfold foT bld
      rw [if_pos e]
      refine condT_ind (P := fun x => okT nm x.1 x.2 = true) (fun _ => ?_) (nthF_ok ik 1 (by omega)) ?_ (fun _ => nthF_ok ik 2 (by omega))
      · have c : fits (places 18 (foF k).len) (foF k) = true := by
          rw [foF_len, ← e]
          exact fits_fo _ k (stb_places _ _) p4 hA.2.1 p3
        have c' : childrenFit (ifH h.pos) (foF k) = true := c
        have a : textFits nm (ifH h.pos) = true := by unfold textFits ifH namedK; simp
        have b : numFits (ifH h.pos) = true := by unfold numFits ifH; simp
        rw [show okT nm (ifH h.pos) (foF k) = (textFits nm (ifH h.pos) && numFits (ifH h.pos) && childrenFit (ifH h.pos) (foF k) && okF nm (foF k)) from rfl, a, b, c', ik]
        rfl
      · unfold okT childrenFit textFits numFits blkH namedK
        simp [places, fits, okF, Fo.len]
    · unfold foT bld
      rw [if_neg e]
      by_cases s : isShort (evT h (foF k)) = true
      · rw [if_pos s]
        rw [evT_foK hT hA.1 hA.2.1] at s ⊢
        exact ok_short (evT_ok hA.1 hA.2.1) s _
      · rw [if_neg s]
        exact pl e
end
end Go.Proofs.YtnknphchjmnkcaaGreatDoor.T
