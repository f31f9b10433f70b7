/-
  Plain mathematics of constant folding: folding again changes nothing; constants in the folded tree; the tree without annotations; a file that prints an expression. No program text is reached here.
-/
import Derived.Test.YtnknphchjmnkcaaGreatDoorFB

set_option linter.all false
namespace Go.Proofs.YtnknphchjmnkcaaGreatDoor.T
set_option linter.unusedVariables false
open Fo
open RowKit (wrap64)

section
variable {nm : ByteArray → Bool}

/-! ### Again -/
theorem plainH_plainH (h : Hd) : plainH (plainH h) = plainH h := rfl
theorem short_again {c : Cv} (hc : okC c) (hs : isShort c = true) (p : Int) : foT (shortH c p) (shortK c p) = (shortH c p, shortK c p) := by
  have lit : ∀ k v, (k = 24 ∧ 0 ≤ v ∨ k = 25 ∧ (v = 0 ∨ v = 1)) → foT (litH k v p) .nil = (litH k v p, .nil) := by
    intro k v hk
    have e : evT (litH k v p) (foF .nil) = ⟨k, v⟩ := evT_lit hk
    have hs : isShort ⟨k, v⟩ = true := by rw [isShort_iff]; unfold least; simp only; omega
    unfold foT bld
    have k18 : (litH k v p).kind ≠ 18 := by show k ≠ 18; omega
    rw [if_neg k18, e, if_pos hs]
    unfold shortH shortK
    rw [if_neg (by simp only; omega), if_neg (by simp only; omega)]
    rfl
  obtain ⟨h0, hl⟩ := (isShort_iff c).1 hs
  have ev := ev_short hc hs p
  obtain ⟨ck, cvv⟩ := c
  by_cases x : cvv < 0
  · have hk : ck = 24 := by
      rcases hc with hc | ⟨hk, _⟩ | ⟨hk, hv⟩
      · injection hc with a b; omega
      · exact hk
      · simp only at hv; omega
    subst hk
    have e1 : shortH ⟨24, cvv⟩ p = negH p := by unfold shortH; rw [if_pos x]
    have e2 : shortK ⟨24, cvv⟩ p = .cons (litH 24 (-cvv) p) .nil .nil := by unfold shortK; rw [if_pos x]
    rw [e1, e2] at ev ⊢
    have l1 := lit 24 (-cvv) (.inl ⟨rfl, by omega⟩)
    have ef : foF (.cons (litH 24 (-cvv) p) .nil .nil) = .cons (litH 24 (-cvv) p) .nil .nil := by rw [foF_cons, l1]; rfl
    unfold foT bld
    rw [if_neg (show ¬ (negH p).kind = 18 from fun x => absurd (show (31 : Int) = 18 from x) (by decide)), ef, ev, if_pos hs]
    have ep : (negH p).pos = p := rfl
    rw [ep, e1, e2]
  · have hk : ck = 24 ∧ 0 ≤ cvv ∨ ck = 25 ∧ (cvv = 0 ∨ cvv = 1) := by
      rcases hc with hc | ⟨hk, _⟩ | ⟨hk, hv⟩
      · injection hc with a b; exact absurd a h0
      · exact .inl ⟨hk, by omega⟩
      · exact .inr ⟨hk, hv⟩
    have e1 : shortH ⟨ck, cvv⟩ p = litH ck cvv p := by unfold shortH; rw [if_neg x]
    have e2 : shortK ⟨ck, cvv⟩ p = .nil := by unfold shortK; rw [if_neg x]
    rw [e1, e2]
    exact lit ck cvv hk
theorem nthF_again {K : Fo} (hK : foF K = K) : ∀ i, i < K.len → foT (nthF K i).1 (nthF K i).2 = nthF K i := by
  induction K with
  | nil => intro i hi; simp [len] at hi
  | cons h k r _ ihr =>
    intro i hi
    rw [foF_cons] at hK
    injection hK with e1 e2 e3
    cases i with
    | zero => exact Prod.ext e1 e2
    | succ i => exact ihr e3 i (by simp only [len] at hi; omega)
/-- P7.2: folding again changes nothing. -/
theorem fo_fo : ∀ (F : Fo), okF nm F = true → F.AllH rgH → foF (foF F) = foF F := by
  intro F
  induction F with
  | nil => intro _ _; rfl
  | cons h k r ihk ihr =>
    intro hF hA
    rw [okF_cons, Bool.and_eq_true] at hF
    obtain ⟨hT, hR⟩ := hF
    obtain ⟨p1, p2, p3, p4⟩ := okT_parts hT
    have ik := ihk p4 hA.2.1
    rw [foF_cons, foF_cons, ihr hR hA.2.2]
    have key : foT (foT h k).1 (foT h k).2 = foT h k := by
      by_cases e : h.kind = 18
      · have l3 : (foF k).len = 3 := by rw [foF_len]; exact if_len hT e
        have e0 : foT h k = condT h.pos (foF k) := by unfold foT bld; rw [if_pos e]
        rw [e0]
        refine condT_ind (P := fun x => foT x.1 x.2 = x) (fun z => ?_) (nthF_again ik 1 (by omega)) rfl (fun _ => nthF_again ik 2 (by omega))
        show bld (ifH h.pos) (foF (foF k)) = _
        rw [ik]
        show condT h.pos (foF k) = _
        unfold condT
        rw [if_pos z]
      · by_cases s : isShort (evT h (foF k)) = true
        · have e0 : foT h k = (shortH (evT h (foF k)) h.pos, shortK (evT h (foF k)) h.pos) := by unfold foT bld; rw [if_neg e, if_pos s]
          rw [e0]
          rw [evT_foK hT hA.1 hA.2.1] at s ⊢
          exact short_again (evT_ok hA.1 hA.2.1) s _
        · have e0 : foT h k = (plainH h, foF k) := by unfold foT bld; rw [if_neg e, if_neg s]
          rw [e0]
          show bld (plainH h) (foF (foF k)) = _
          rw [ik]
          have l : ¬ (h.kind = 24 ∨ h.kind = 25) := fun l => by
            obtain ⟨rfl, x, y⟩ := ev_lit hT l
            apply s
            have x' : evT h (foF .nil) = ⟨h.kind, h.num⟩ := x
            rw [x', isShort_iff]
            unfold least; simp only; omega
          have ee : evT (plainH h) (foF k) = evT h (foF k) := evC_plain _ (by omega) (by omega)
          unfold bld
          rw [if_neg (show (plainH h).kind ≠ 18 from e), ee, if_neg s]
          rfl
    rw [key]

/-! ### Constants in the folded tree -/
/-- What P7.2 says of a node. -/
def Qn (h : Hd) (k : Fo) : Prop :=
  (h.kind = 18 → (evT (nthF k 0).1 (nthF k 0).2).k = 0) ∧
  ((evT h k).k ≠ 0 → h.kind = 24 ∨ h.kind = 25 ∨ (h.kind = 31 ∧ h.text.data.toList = [45] ∧ (nthF k 0).1.kind = 24 ∧ k.len = 1 ∧ (evT h k).v < 0) ∨ (evT h k).v = least)
theorem pre_nth {K : Fo} : ∀ i, i < K.len → ∀ x ∈ preT (nthF K i).1 (nthF K i).2, x ∈ K.pre := by
  induction K with
  | nil => intro i hi; simp [len] at hi
  | cons h k r _ ihr =>
    intro i hi x hx
    simp only [pre, List.mem_cons, List.mem_append]
    cases i with
    | zero =>
      unfold preT at hx
      rcases List.mem_cons.1 hx with rfl | hx
      · exact .inl rfl
      · exact .inr (.inl hx)
    | succ i => exact .inr (.inr (ihr i (by simp only [len] at hi; omega) x hx))
theorem q_lit (k v p : Int) (hk : k = 24 ∨ k = 25) : Qn (litH k v p) .nil :=
  ⟨(fun e => by have e' : k = 18 := e; omega), fun _ => by have e : (litH k v p).kind = k := rfl; rw [e]; omega⟩
theorem q_short {c : Cv} (hc : okC c) (hs : isShort c = true) (p : Int) : ∀ x ∈ preT (shortH c p) (shortK c p), Qn x.1 x.2 := by
  obtain ⟨h0, hl⟩ := (isShort_iff c).1 hs
  have ev := ev_short hc hs p
  have hk := okC_k hc h0
  intro x hx
  unfold preT at hx
  rcases List.mem_cons.1 hx with rfl | hx
  · unfold Qn
    rw [ev]
    by_cases n : c.v < 0
    · have e1 : shortH c p = negH p := by unfold shortH; rw [if_pos n]
      have e2 : shortK c p = .cons (litH c.k (-c.v) p) .nil .nil := by unfold shortK; rw [if_pos n]
      simp only [e1, e2]
      refine ⟨(fun e => by cases e), fun _ => .inr (.inr (.inl ⟨rfl, rfl, ?_, rfl, n⟩))⟩
      show c.k = 24
      rcases hc with hc | ⟨hk, _⟩ | ⟨hk, hv⟩
      · rw [hc] at h0; exact absurd rfl h0
      · exact hk
      · omega
    · have e1 : shortH c p = litH c.k c.v p := by unfold shortH; rw [if_neg n]
      simp only [e1]
      refine ⟨(fun e => by have e' : c.k = 18 := e; omega), fun _ => ?_⟩
      show c.k = 24 ∨ c.k = 25 ∨ _
      rcases hk with hk | hk
      · exact .inl hk
      · exact .inr (.inl hk)
  · unfold shortK at hx
    split at hx
    · simp only [pre, List.append_nil, List.mem_cons, List.not_mem_nil, or_false] at hx
      subst hx
      exact q_lit _ _ _ hk
    · cases hx
theorem q_fo : ∀ (F : Fo), okF nm F = true → F.AllH rgH → ∀ x ∈ (foF F).pre, Qn x.1 x.2 := by
  intro F
  induction F with
  | nil => intro _ _ x hx; cases hx
  | cons h k r ihk ihr =>
    intro hF hA
    rw [okF_cons, Bool.and_eq_true] at hF
    obtain ⟨hT, hR⟩ := hF
    have ik := ihk (okT_parts hT).2.2.2 hA.2.1
    have key : ∀ x ∈ preT (foT h k).1 (foT h k).2, Qn x.1 x.2 := by
      by_cases e : h.kind = 18
      · have l3 : (foF k).len = 3 := by rw [foF_len]; exact if_len hT e
        have e0 : foT h k = condT h.pos (foF k) := by unfold foT bld; rw [if_pos e]
        rw [e0]
        refine condT_ind (P := fun y => ∀ x ∈ preT y.1 y.2, Qn x.1 x.2) (fun z => ?_) (fun x hx => ik x (pre_nth 1 (by omega) x hx)) ?_ (fun _ x hx => ik x (pre_nth 2 (by omega) x hx))
        · intro x hx
          unfold preT at hx
          rcases List.mem_cons.1 hx with rfl | hx
          · refine ⟨fun _ => z, fun y => ?_⟩
            have : evT (ifH h.pos) (foF k) = no := ev_no18 (.inl rfl)
            exact absurd (by rw [this]; rfl) y
          · exact ik x hx
        · intro x hx
          have hx' : x = (blkH h.pos, .nil) := by simpa [preT, pre] using hx
          subst hx'
          refine ⟨(fun e => by cases e), fun y => ?_⟩
          have : evT (blkH h.pos) .nil = no := ev_no18 (.inr (.inl rfl))
          exact absurd (by rw [this]; rfl) y
      · by_cases s : isShort (evT h (foF k)) = true
        · have e0 : foT h k = (shortH (evT h (foF k)) h.pos, shortK (evT h (foF k)) h.pos) := by unfold foT bld; rw [if_neg e, if_pos s]
          rw [e0]
          rw [evT_foK hT hA.1 hA.2.1] at s ⊢
          exact q_short (evT_ok hA.1 hA.2.1) s _
        · have e0 : foT h k = (plainH h, foF k) := by unfold foT bld; rw [if_neg e, if_neg s]
          rw [e0]
          intro x hx
          unfold preT at hx
          rcases List.mem_cons.1 hx with rfl | hx
          · refine ⟨fun y => absurd y e, fun y => ?_⟩
            by_cases l : h.kind = 24 ∨ h.kind = 25
            · rcases l with l | l
              · exact .inl l
              · exact .inr (.inl l)
            · have ee : evT (plainH h) (foF k) = evT h (foF k) := evC_plain _ (by omega) (by omega)
              rw [ee] at y ⊢
              right; right; right
              by_cases z : (evT h (foF k)).v = least
              · exact z
              · exact absurd ((isShort_iff _).2 ⟨y, z⟩) s
          · exact ik x hx
    rw [foF_cons]
    intro x hx
    simp only [pre, List.mem_cons, List.mem_append] at hx
    rcases hx with rfl | hx | hx
    · exact key _ (List.mem_cons_self ..)
    · exact key x (List.mem_cons_of_mem _ hx)
    · exact ihr hR hA.2.2 x hx

/-! ### Without annotations but positions -/
def plH (h : Hd) : Hd := ⟨h.kind, h.text, if counts h then h.num else 0, h.pos, 0, ⟨#[]⟩, 0, 0⟩
def plF : Fo → Fo
  | .nil => .nil
  | .cons h k r => .cons (plH h) (plF k) (plF r)
theorem plF_len (F : Fo) : (plF F).len = F.len := by
  induction F with
  | nil => rfl
  | cons h k r _ ih => simp [plF, len, ih]
theorem plF_cnt (F : Fo) : (plF F).cnt = F.cnt := by
  induction F with
  | nil => rfl
  | cons h k r ihk ih => simp [plF, cnt, ih, ihk]
theorem plF_dep (F : Fo) : (plF F).dep = F.dep := by
  induction F with
  | nil => rfl
  | cons h k r ihk ih => simp [plF, dep, ih, ihk]
theorem plH_num {h : Hd} (e : h.kind = 24 ∨ h.kind = 25) : (plH h).num = h.num := by
  unfold plH counts; rcases e with e | e <;> simp [e]
theorem isLit_pl (h : Hd) (n : Nat) : isLit (plH h) n = isLit h n := by
  by_cases e : h.kind = 24 ∨ h.kind = 25
  · unfold isLit; rw [plH_num e]; rfl
  · have a : isLit h n = false := by unfold isLit; simp [show h.kind ≠ 24 by omega, show h.kind ≠ 25 by omega]
    have b : isLit (plH h) n = false := by unfold isLit plH; simp [show h.kind ≠ 24 by omega, show h.kind ≠ 25 by omega]
    rw [a, b]
theorem evC_pl (h : Hd) (l : List Cv) : evC (plH h) l = evC h l := by
  by_cases c : isLit h l.length = true
  · have e : h.kind = 24 ∨ h.kind = 25 := by
      unfold isLit at c
      simp only [Bool.and_eq_true, Bool.or_eq_true, beq_iff_eq] at c
      omega
    unfold evC
    rw [isLit_pl, if_pos c, if_pos c, plH_num e]
    rfl
  · unfold evC
    rw [isLit_pl, if_neg c, if_neg c]
    rfl
theorem evF_pl (F : Fo) : evF (plF F) = evF F := by
  induction F with
  | nil => rfl
  | cons h k r ihk ihr => simp only [plF, evF, ihk, ihr, evC_pl]
theorem bld_pl (h : Hd) (K : Fo) : bld (plH h) K = bld h K := by
  unfold bld evT
  rw [evC_pl]
  rfl
theorem foF_pl (F : Fo) : foF (plF F) = foF F := by
  induction F with
  | nil => rfl
  | cons h k r ihk ihr => simp only [plF, foF, ihk, ihr, bld_pl]
theorem foT_pl (h : Hd) (k : Fo) : foT (plH h) (plF k) = foT h k := by unfold foT; rw [foF_pl, bld_pl]
theorem lastK_pl (F : Fo) : lastK (plF F) = lastK F := by
  induction F with
  | nil => rfl
  | cons h k r _ ihr =>
    cases r with
    | nil => rfl
    | cons h' k' r' => exact ihr
theorem textFits_pl (h : Hd) : textFits nm (plH h) = textFits nm h := rfl
theorem numFits_pl (h : Hd) : numFits (plH h) = numFits h := by
  by_cases e : h.kind = 24 ∨ h.kind = 25
  · unfold numFits; rw [plH_num e]; rfl
  · have a : numFits h = true := by unfold numFits; rw [if_neg (by omega), if_neg (by omega)]
    have b : numFits (plH h) = true := by unfold numFits; rw [if_neg (show ¬ (plH h).kind = 24 from fun x => e (.inl x)), if_neg (show ¬ (plH h).kind = 25 from fun x => e (.inr x))]
    rw [a, b]
theorem fits_pl : ∀ (l : List Pl) (F : Fo), (∀ p ∈ l, ∀ h k, p (plH h) (plF k) = p h k) → fits l (plF F) = fits l F
  | [], .nil, _ => rfl
  | [], .cons _ _ _, _ => rfl
  | _ :: _, .nil, _ => rfl
  | p :: l, .cons h k r, H => by
    show (p (plH h) (plF k) && fits l (plF r)) = (p h k && fits l r)
    rw [H p (List.mem_cons_self ..), fits_pl l r fun q hq => H q (List.mem_cons_of_mem _ hq)]
theorem places_pl (kind : Int) (n : Nat) : ∀ p ∈ places kind n, ∀ h k, p (plH h) (plF k) = p h k := by
  let B : Pl → Prop := fun p => ∀ h k, p (plH h) (plF k) = p h k
  have o : ∀ l, B (one l) := fun l h k => rfl
  have t : B isT := fun h k => rfl
  have e : B isE := fun h k => rfl
  have s : B isS := fun h k => rfl
  have op : ∀ p, B p → B (opt p) := fun p hp h k => by
    show ((plH h).kind == 9 || p (plH h) (plF k)) = (h.kind == 9 || p h k)
    rw [hp h k]; rfl
  have d : B declT := fun h k => by unfold declT; rw [lastK_pl]; rfl
  have c : B commT := fun h k => by unfold commT; rw [lastK_pl]; rfl
  have rep : ∀ {q : Pl} {m : Nat}, B q → ∀ p ∈ List.replicate m q, B p := fun hq p hp => by
    rw [(List.mem_replicate.1 hp).2]; exact hq
  have nl : ∀ p ∈ ([] : List Pl), B p := fun p hp => by cases hp
  have cn : ∀ {q : Pl} {l : List Pl}, B q → (∀ p ∈ l, B p) → ∀ p ∈ q :: l, B p := fun hq hl p hp => by
    rcases List.mem_cons.1 hp with rfl | hp
    · exact hq
    · exact hl p hp
  have it : ∀ {c : Prop} [Decidable c] {a b : List Pl}, (∀ p ∈ a, B p) → (∀ p ∈ b, B p) → ∀ p ∈ (if c then a else b), B p := by
    intro c _ a b ha hb
    by_cases h : c
    · rw [if_pos h]; exact ha
    · rw [if_neg h]; exact hb
  show ∀ p ∈ places kind n, B p
  unfold places
  repeat' (refine it ?_ ?_)
  all_goals first
    | exact nl
    | exact rep d
    | exact rep (o _)
    | exact rep s
    | exact rep e
    | exact cn t nl
    | exact cn e nl
    | exact cn (o _) nl
    | exact cn e (cn e nl)
    | exact cn t (cn (op _ e) nl)
    | exact cn (o _) (cn (op _ t) (cn (o _) nl))
    | exact cn e (cn (o _) (cn (op _ (o _)) nl))
    | exact cn (op _ e) (cn (o _) nl)
    | exact cn (op _ c) (cn (o _) nl)
theorem okF_pl : ∀ F, okF nm (plF F) = okF nm F := by
  intro F
  induction F with
  | nil => rfl
  | cons h k r ihk ihr =>
    show ((textFits nm (plH h) && numFits (plH h) && childrenFit (plH h) (plF k) && okF nm (plF k)) && okF nm (plF r)) = _
    have c : childrenFit (plH h) (plF k) = childrenFit h k := by
      show fits (places h.kind (plF k).len) (plF k) = fits (places h.kind k.len) k
      rw [plF_len]; exact fits_pl _ _ (places_pl _ _)
    rw [c, ihk, ihr, numFits_pl]
    rfl
theorem okT_pl (h : Hd) (k : Fo) : okT nm (plH h) (plF k) = okT nm h k := by
  have := okF_pl (nm := nm) (.cons h k .nil)
  rw [show plF (.cons h k .nil) = .cons (plH h) (plF k) .nil from rfl, okF_cons, okF_cons] at this
  simpa [okF] using this
theorem rg_pl : ∀ (F : Fo), F.AllH rgH → (plF F).AllH rgH := by
  intro F
  induction F with
  | nil => intro _; trivial
  | cons h k r ihk ihr =>
    intro ⟨a, b, c⟩
    refine ⟨?_, ihk b, ihr c⟩
    show rg (if counts h then h.num else 0)
    split
    · exact a
    · exact rg0
/-- A head without annotations. -/
def isPl (h : Hd) : Prop := plH h = h
theorem isPl_plH (h : Hd) : isPl (plH h) := by
  have : counts (plH h) = counts h := rfl
  unfold isPl
  show Hd.mk h.kind h.text (if counts (plH h) then (plH h).num else 0) h.pos 0 ⟨#[]⟩ 0 0 = _
  rw [this]
  unfold plH
  by_cases c : counts h = true <;> simp [c]
theorem isPl_plF : ∀ (F : Fo), (plF F).AllH isPl := by
  intro F
  induction F with
  | nil => trivial
  | cons h k r ihk ihr => exact ⟨isPl_plH h, ihk, ihr⟩

/-! ### Files -/
theorem valid_fo {h : Hd} {k : Fo} (hV : validT nm h k = true) (hr : rgH h) (hA : k.AllH rgH) :
    foT h k = (plainH h, foF k) ∧ validT nm (plainH h) (foF k) = true ∧ (foF k).cnt ≤ k.cnt := by
  unfold validT at hV
  rw [Bool.and_eq_true, permT_dep, Bool.and_eq_true] at hV
  obtain ⟨h1, h2, h3⟩ := hV
  have e : h.kind = 1 := by simpa using h1
  have ef : foT h k = (plainH h, foF k) := kd (by omega) (by omega) (by omega) (by omega) (by omega)
  have hF : okF nm (.cons h k .nil) = true := by rw [okF_cons, h2]; rfl
  have o := ok_fo (.cons h k .nil) hF ⟨hr, hA, trivial⟩
  have s := fo_small k (okT_parts h2).2.2.2 hA
  rw [foF_cons, ef, okF_cons, Bool.and_eq_true] at o
  refine ⟨ef, ?_, s.1⟩
  unfold validT
  rw [permT_dep, o.1]
  have d : decide ((foF k).dep + 1 ≤ 50) = true := by
    have := of_decide_eq_true h3
    exact decide_eq_true (by omega)
  rw [d]
  simp [plainH, e]
end
end Go.Proofs.YtnknphchjmnkcaaGreatDoor.T
