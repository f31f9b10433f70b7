/-
  The printer's expressions and statements, together.
-/
import Derived.Test.YticbcnhbpbaocaaGreatDoorTA
import Derived.Test.YticbcnhbpbaocaaGreatDoorQB
import Derived.Test.YticbcnhbpbaocaaGreatDoorQD
import Derived.Test.YticbcnhbpbaocaaGreatDoorQE
import Derived.Test.YticbcnhbpbaocaaGreatDoorQF

set_option linter.all false
namespace Go.Proofs.YticbcnhbpbaocaaGreatDoor
open Go.RowKit T T.Fo
set_option linter.all false

/-- A permitted tree, small enough, in a line with n tabs. -/
structure Gd (n : Nat) (h : Hd) (k : Fo) : Prop where
  ok : okT nm h k = true
  s : sh h
  sk : k.AllH sh
  d : n + k.dep + 1 ≤ 60
  c : k.cnt + 1 ≤ 1048576
theorem kids_gd : ∀ {k : Fo} {n : Nat}, okF nm k = true → k.AllH sh → n + k.dep ≤ 60 → k.cnt ≤ 1048576 → k.All (Gd n)
  | .nil, _, _, _, _, _ => trivial
  | .cons h kk r, n, ho, hs, hd, hc => by
    rw [okF_cons, Bool.and_eq_true] at ho
    simp only [Fo.dep] at hd
    simp only [Fo.cnt] at hc
    exact ⟨⟨ho.1, hs.1, hs.2.1, by omega, by omega⟩, kids_gd ho.2 hs.2.2 (by omega) (by omega)⟩
theorem Gd.parts {n : Nat} {h : Hd} {k : Fo} (g : Gd n h k) : textFits nm h = true ∧ numFits h = true ∧ childrenFit h k = true ∧ okF nm k = true := by
  have := g.ok
  unfold okT at this
  simp only [Bool.and_eq_true] at this
  exact ⟨this.1.1.1, this.1.1.2, this.1.2, this.2⟩
theorem Gd.kids {n : Nat} {h : Hd} {k : Fo} (g : Gd n h k) : k.All (Gd n) := kids_gd g.parts.2.2.2 g.sk (by have := g.d; omega) (by have := g.c; omega)
theorem Gd.kids1 {n : Nat} {h : Hd} {k : Fo} (g : Gd n h k) : k.All (Gd (n + 1)) := kids_gd g.parts.2.2.2 g.sk (by have := g.d; omega) (by have := g.c; omega)

/-- What a printer does with a permitted tree. -/
structure PQ (B b n : Nat) (W : World) (h : Hd) (k : Fo) : Prop where
  ex : exprK h.kind = true → PrnT 115 h k (rcT n h k).ex (n : Int) B b W
  st : stmtK h.kind = true → PrnT 116 h k (rcT n h k).st (n : Int) B b W
  bl : h.kind = 10 → PrnT 99 h k (rcT n h k).st (n : Int) B b W
  ks : h.kind = 10 → k.All fun h' k' => PrnT 116 h' k' (rcT (n + 1) h' k').st ((n + 1 : Nat) : Int) B b W
  cs : h.kind = 23 → CaseP (n : Int) ((n + 1 : Nat) : Int) B b W (fun h' k' => (rcT (n + 1) h' k').st) (fun h' k' => (rcT n h' k').st) h k
def PP (B b : Nat) (h : Hd) (k : Fo) : Prop := ∀ (n : Nat) (W : World), Gd n h k → PQ B b n W h k

section
variable {n B b : Nat} {h : Hd} {k : Fo}
theorem Gd.pq (g : Gd n h k) (H : k.All (PP B b)) (W : World) : k.All (PQ B b n W) := all_imp (fun h k hh => hh.1 n W hh.2) (all_and H g.kids)
theorem Gd.pq1 (g : Gd n h k) (H : k.All (PP B b)) (W : World) : k.All (PQ B b (n + 1) W) := all_imp (fun h k hh => hh.1 (n + 1) W hh.2) (all_and H g.kids1)
theorem Gd.ex (g : Gd n h k) (H : k.All (PP B b)) (W : World) : k.All fun h' k' => exprK h'.kind = true → PrnT 115 h' k' (rcT n h' k').ex (n : Int) B b W := all_imp (fun h k hh => hh.ex) (g.pq H W)
theorem Gd.st (g : Gd n h k) (H : k.All (PP B b)) (W : World) : k.All fun h' k' => stmtK h'.kind = true → PrnT 116 h' k' (rcT n h' k').st (n : Int) B b W := all_imp (fun h k hh => hh.st) (g.pq H W)
theorem Gd.bl (g : Gd n h k) (H : k.All (PP B b)) (W : World) : k.All fun h' k' => h'.kind = 10 → PrnT 99 h' k' (rcT n h' k').st (n : Int) B b W := all_imp (fun h k hh => hh.bl) (g.pq H W)
theorem Gd.st1 (g : Gd n h k) (H : k.All (PP B b)) (W : World) : k.All fun h' k' => stmtK h'.kind = true → PrnT 116 h' k' (rcT (n + 1) h' k').st ((n + 1 : Nat) : Int) B b W := all_imp (fun h k hh => hh.st) (g.pq1 H W)
end
theorem mapF_ex (n : Nat) : ∀ F : Fo, mapF (fun h k => (rcT n h k).ex) F = (rcF F n).map (·.ex)
  | .nil => rfl
  | .cons h k r => by rw [rcF_cons]; simp only [mapF, List.map_cons, mapF_ex n r]
theorem mapF_st (n : Nat) : ∀ F : Fo, mapF (fun h k => (rcT n h k).st) F = (rcF F n).map (·.st)
  | .nil => rfl
  | .cons h k r => by rw [rcF_cons]; simp only [mapF, List.map_cons, mapF_st n r]
theorem linF_st (n : Nat) : ∀ F : Fo, linF (n : Int) (fun h k => (rcT n h k).st) F = linesS n (rcF F n)
  | .nil => rfl
  | .cons h k r => by rw [rcF_cons, linF_cons, linF_st n r, Int.toNat_natCast]; simp [linesS, lineS]
theorem flatF_st (n : Nat) : ∀ F : Fo, flatF (fun h k => T.tabs n ++ (rcT n h k).st) F = ((rcF F n).map fun r => T.tabs n ++ r.st).flatten
  | .nil => rfl
  | .cons h k r => by rw [rcF_cons, flatF_cons, flatF_st n r]; simp
theorem st_10 (n : Nat) (h : Hd) (k : Fo) (e : h.kind = 10) : (rcT n h k).st = blkS n (rcT n h k).ls := by
  obtain ⟨kd, t, nu, p, tk, tn, r, u⟩ := h
  obtain rfl : kd = 10 := e
  rfl
theorem kids_pp {n B b : Nat} {h : Hd} {k : Fo} {W : World} (e : h.kind = 10) (g : Gd n h k) (H : k.All (PP B b)) : k.All fun h' k' => PrnT 116 h' k' (rcT (n + 1) h' k').st ((n + 1 : Nat) : Int) B b W := by
  have hc := g.parts.2.2.1
  obtain ⟨kd, t, nu, p, tk, tn, r, u⟩ := h
  obtain rfl : kd = 10 := e
  simp [childrenFit, places] at hc
  exact all_imp (fun h k hh => hh.1 hh.2) (all_and (g.st1 H W) (fits_rep hc).2)
theorem block_pp {n B b : Nat} {h : Hd} {k : Fo} {W : World} (e : h.kind = 10) (g : Gd n h k) (H : k.All (PP B b)) : PrnT 99 h k (rcT n h k).st (n : Int) B b W := by
  have hS := kids_pp (W := W) e g H
  have hd := g.d
  have hcn := g.c
  have := block_any (d := (n : Int)) (d1 := ((n + 1 : Nat) : Int)) h k (fun h' k' => (rcT (n + 1) h' k').st) (by omega) (by omega) (by omega) hS (by omega)
  rw [linF_st, Int.toNat_natCast] at this
  rw [st_10 n h k e]
  exact this
theorem ex_24 {n B b : Nat} {W : World} {k : Fo} (t : ByteArray) (nu p tk : Int) (tn : ByteArray) (r u : Int) (g : Gd n ⟨24, t, nu, p, tk, tn, r, u⟩ k) (H : k.All (PP B b)) : PrnT 115 ⟨24, t, nu, p, tk, tn, r, u⟩ k (rcT n ⟨24, t, nu, p, tk, tn, r, u⟩ k).ex (n : Int) B b W := by
  have hc := g.parts.2.2.1
  simp [childrenFit, places] at hc
  obtain rfl := fits_nil hc
  have hn := g.parts.2.1
  simp [numFits] at hn
  have hs := g.s.2
  exact exp_24 t nu p tk tn r u hn (by show nu ≤ _; have : nu < 9223372036854775808 := hs; omega)

theorem ex_25 {n B b : Nat} {W : World} {k : Fo} (t : ByteArray) (nu p tk : Int) (tn : ByteArray) (r u : Int) (g : Gd n ⟨25, t, nu, p, tk, tn, r, u⟩ k) (H : k.All (PP B b)) : PrnT 115 ⟨25, t, nu, p, tk, tn, r, u⟩ k (rcT n ⟨25, t, nu, p, tk, tn, r, u⟩ k).ex (n : Int) B b W := by
  have hc := g.parts.2.2.1
  simp [childrenFit, places] at hc
  obtain rfl := fits_nil hc
  exact exp_25 t nu p tk tn r u

theorem ex_26 {n B b : Nat} {W : World} {k : Fo} (t : ByteArray) (nu p tk : Int) (tn : ByteArray) (r u : Int) (g : Gd n ⟨26, t, nu, p, tk, tn, r, u⟩ k) (H : k.All (PP B b)) : PrnT 115 ⟨26, t, nu, p, tk, tn, r, u⟩ k (rcT n ⟨26, t, nu, p, tk, tn, r, u⟩ k).ex (n : Int) B b W := by
  have hc := g.parts.2.2.1
  simp [childrenFit, places] at hc
  obtain rfl := fits_nil hc
  exact exp_26 t nu p tk tn r u

theorem ex_27 {n B b : Nat} {W : World} {k : Fo} (t : ByteArray) (nu p tk : Int) (tn : ByteArray) (r u : Int) (g : Gd n ⟨27, t, nu, p, tk, tn, r, u⟩ k) (H : k.All (PP B b)) : PrnT 115 ⟨27, t, nu, p, tk, tn, r, u⟩ k (rcT n ⟨27, t, nu, p, tk, tn, r, u⟩ k).ex (n : Int) B b W := by
  have hc := g.parts.2.2.1
  simp [childrenFit, places] at hc
  obtain rfl := fits_nil hc
  exact exp_27 t nu p tk tn r u

theorem ex_34 {n B b : Nat} {W : World} {k : Fo} (t : ByteArray) (nu p tk : Int) (tn : ByteArray) (r u : Int) (g : Gd n ⟨34, t, nu, p, tk, tn, r, u⟩ k) (H : k.All (PP B b)) : PrnT 115 ⟨34, t, nu, p, tk, tn, r, u⟩ k (rcT n ⟨34, t, nu, p, tk, tn, r, u⟩ k).ex (n : Int) B b W := by
  have hc := g.parts.2.2.1
  simp [childrenFit, places] at hc
  obtain rfl := fits_nil hc
  exact exp_34 t nu p tk tn r u

theorem ex_28 {n B b : Nat} {W : World} {k : Fo} (t : ByteArray) (nu p tk : Int) (tn : ByteArray) (r u : Int) (g : Gd n ⟨28, t, nu, p, tk, tn, r, u⟩ k) (H : k.All (PP B b)) : PrnT 115 ⟨28, t, nu, p, tk, tn, r, u⟩ k (rcT n ⟨28, t, nu, p, tk, tn, r, u⟩ k).ex (n : Int) B b W := by
  have hc := g.parts.2.2.1
  simp [childrenFit, places] at hc
  obtain ⟨h0, k0, rfl, q0⟩ := fits_one hc
  exact exp_28 t nu p tk tn r u h0 k0 _ ((g.ex H W).1 q0)

theorem ex_31 {n B b : Nat} {W : World} {k : Fo} (t : ByteArray) (nu p tk : Int) (tn : ByteArray) (r u : Int) (g : Gd n ⟨31, t, nu, p, tk, tn, r, u⟩ k) (H : k.All (PP B b)) : PrnT 115 ⟨31, t, nu, p, tk, tn, r, u⟩ k (rcT n ⟨31, t, nu, p, tk, tn, r, u⟩ k).ex (n : Int) B b W := by
  have hc := g.parts.2.2.1
  simp [childrenFit, places] at hc
  obtain ⟨h0, k0, rfl, q0⟩ := fits_one hc
  exact exp_31 t nu p tk tn r u h0 k0 _ ((g.ex H W).1 q0)

theorem ex_33 {n B b : Nat} {W : World} {k : Fo} (t : ByteArray) (nu p tk : Int) (tn : ByteArray) (r u : Int) (g : Gd n ⟨33, t, nu, p, tk, tn, r, u⟩ k) (H : k.All (PP B b)) : PrnT 115 ⟨33, t, nu, p, tk, tn, r, u⟩ k (rcT n ⟨33, t, nu, p, tk, tn, r, u⟩ k).ex (n : Int) B b W := by
  have hc := g.parts.2.2.1
  simp [childrenFit, places] at hc
  obtain ⟨h0, k0, rfl, q0⟩ := fits_one hc
  exact exp_33 t nu p tk tn r u h0 k0 _ ((g.ex H W).1 q0)

theorem ex_35 {n B b : Nat} {W : World} {k : Fo} (t : ByteArray) (nu p tk : Int) (tn : ByteArray) (r u : Int) (g : Gd n ⟨35, t, nu, p, tk, tn, r, u⟩ k) (H : k.All (PP B b)) : PrnT 115 ⟨35, t, nu, p, tk, tn, r, u⟩ k (rcT n ⟨35, t, nu, p, tk, tn, r, u⟩ k).ex (n : Int) B b W := by
  have hc := g.parts.2.2.1
  simp [childrenFit, places] at hc
  obtain ⟨h0, k0, rfl, q0⟩ := fits_one hc
  exact exp_35 t nu p tk tn r u h0 k0 _ ((g.ex H W).1 q0)

theorem ex_36 {n B b : Nat} {W : World} {k : Fo} (t : ByteArray) (nu p tk : Int) (tn : ByteArray) (r u : Int) (g : Gd n ⟨36, t, nu, p, tk, tn, r, u⟩ k) (H : k.All (PP B b)) : PrnT 115 ⟨36, t, nu, p, tk, tn, r, u⟩ k (rcT n ⟨36, t, nu, p, tk, tn, r, u⟩ k).ex (n : Int) B b W := by
  have hc := g.parts.2.2.1
  simp [childrenFit, places] at hc
  obtain ⟨h0, k0, rfl, q0⟩ := fits_one hc
  exact exp_36 t nu p tk tn r u h0 k0 _ ((g.ex H W).1 q0)

theorem ex_37 {n B b : Nat} {W : World} {k : Fo} (t : ByteArray) (nu p tk : Int) (tn : ByteArray) (r u : Int) (g : Gd n ⟨37, t, nu, p, tk, tn, r, u⟩ k) (H : k.All (PP B b)) : PrnT 115 ⟨37, t, nu, p, tk, tn, r, u⟩ k (rcT n ⟨37, t, nu, p, tk, tn, r, u⟩ k).ex (n : Int) B b W := by
  have hc := g.parts.2.2.1
  simp [childrenFit, places] at hc
  obtain ⟨h0, k0, rfl, q0⟩ := fits_one hc
  exact exp_37 t nu p tk tn r u h0 k0 _ ((g.ex H W).1 q0)

theorem ex_29 {n B b : Nat} {W : World} {k : Fo} (t : ByteArray) (nu p tk : Int) (tn : ByteArray) (r u : Int) (g : Gd n ⟨29, t, nu, p, tk, tn, r, u⟩ k) (H : k.All (PP B b)) : PrnT 115 ⟨29, t, nu, p, tk, tn, r, u⟩ k (rcT n ⟨29, t, nu, p, tk, tn, r, u⟩ k).ex (n : Int) B b W := by
  have hc := g.parts.2.2.1
  simp [childrenFit, places] at hc
  obtain ⟨h0, k0, h1, k1, rfl, q0, q1⟩ := fits_two hc
  exact exp_29 t nu p tk tn r u h0 k0 _ h1 k1 _ ((g.ex H W).1 q0) ((g.ex H W).2.1 q1)

theorem ex_32 {n B b : Nat} {W : World} {k : Fo} (t : ByteArray) (nu p tk : Int) (tn : ByteArray) (r u : Int) (g : Gd n ⟨32, t, nu, p, tk, tn, r, u⟩ k) (H : k.All (PP B b)) : PrnT 115 ⟨32, t, nu, p, tk, tn, r, u⟩ k (rcT n ⟨32, t, nu, p, tk, tn, r, u⟩ k).ex (n : Int) B b W := by
  have hc := g.parts.2.2.1
  simp [childrenFit, places] at hc
  obtain ⟨h0, k0, h1, k1, rfl, q0, q1⟩ := fits_two hc
  exact exp_32 t nu p tk tn r u h0 k0 _ h1 k1 _ ((g.ex H W).1 q0) ((g.ex H W).2.1 q1)

theorem ex_30 {n B b : Nat} {W : World} {k : Fo} (t : ByteArray) (nu p tk : Int) (tn : ByteArray) (r u : Int) (g : Gd n ⟨30, t, nu, p, tk, tn, r, u⟩ k) (H : k.All (PP B b)) : PrnT 115 ⟨30, t, nu, p, tk, tn, r, u⟩ k (rcT n ⟨30, t, nu, p, tk, tn, r, u⟩ k).ex (n : Int) B b W := by
  have hc := g.parts.2.2.1
  simp [childrenFit, places] at hc
  obtain ⟨hm, hA⟩ := fits_rep hc
  have hE : k.All fun h' k' => PrnT 115 h' k' (rcT n h' k').ex (n : Int) B b W := all_imp (fun h k hh => hh.1 hh.2) (all_and (g.ex H W) hA)
  have hcn := g.c
  cases k with
  | nil => simp [Fo.len] at hm
  | cons h0 k0 F =>
    have := exp_30 (d := (n : Int)) (b := b) (B := B) (W := W) t nu p tk tn r u h0 k0 F (rcT n h0 k0).ex (fun h' k' => (rcT n h' k').ex) hE.1 hE.2 (by simp only [Fo.cnt] at hcn; omega)
    rw [mapF_ex] at this
    exact this

theorem ex_38 {n B b : Nat} {W : World} {k : Fo} (t : ByteArray) (nu p tk : Int) (tn : ByteArray) (r u : Int) (g : Gd n ⟨38, t, nu, p, tk, tn, r, u⟩ k) (H : k.All (PP B b)) : PrnT 115 ⟨38, t, nu, p, tk, tn, r, u⟩ k (rcT n ⟨38, t, nu, p, tk, tn, r, u⟩ k).ex (n : Int) B b W := by
  have hc := g.parts.2.2.1
  simp [childrenFit, places] at hc
  obtain ⟨h0, k0, rfl, q0⟩ := fits_one hc
  have e := one_kind q0
  simp at e
  have := exp_38 (d := (n : Int)) (b := b) (B := B) (W := W) t nu p tk tn r u h0 k0 _ ((g.bl H W).1 e)
  rw [st_10 n h0 k0 e] at this
  exact this

theorem expr_pp {n B b : Nat} {W : World} {h : Hd} {k : Fo} (he : exprK h.kind = true) (g : Gd n h k) (H : k.All (PP B b)) : PrnT 115 h k (rcT n h k).ex (n : Int) B b W := by
  obtain ⟨kd, t, nu, p, tk, tn, r, u⟩ := h
  simp only [exprK, Bool.or_eq_true, beq_iff_eq] at he
  rcases he with (((((((((((((rfl | rfl) | rfl) | rfl) | rfl) | rfl) | rfl) | rfl) | rfl) | rfl) | rfl) | rfl) | rfl) | rfl) | rfl
  · exact ex_28 t nu p tk tn r u g H
  · exact ex_29 t nu p tk tn r u g H
  · exact ex_30 t nu p tk tn r u g H
  · exact ex_31 t nu p tk tn r u g H
  · exact ex_32 t nu p tk tn r u g H
  · exact ex_33 t nu p tk tn r u g H
  · exact ex_35 t nu p tk tn r u g H
  · exact ex_36 t nu p tk tn r u g H
  · exact ex_37 t nu p tk tn r u g H
  · exact ex_27 t nu p tk tn r u g H
  · exact ex_34 t nu p tk tn r u g H
  · exact ex_24 t nu p tk tn r u g H
  · exact ex_25 t nu p tk tn r u g H
  · exact ex_26 t nu p tk tn r u g H
  · exact ex_38 t nu p tk tn r u g H

theorem st_13 {n B b : Nat} {W : World} {k : Fo} (t : ByteArray) (nu p tk : Int) (tn : ByteArray) (r u : Int) (g : Gd n ⟨13, t, nu, p, tk, tn, r, u⟩ k) (H : k.All (PP B b)) : PrnT 116 ⟨13, t, nu, p, tk, tn, r, u⟩ k (rcT n ⟨13, t, nu, p, tk, tn, r, u⟩ k).st (n : Int) B b W := by
  have hc := g.parts.2.2.1
  simp [childrenFit, places] at hc
  obtain ⟨h0, k0, rfl, q0⟩ := fits_one hc
  have e : exprK h0.kind = true := by
    have := one_kind q0
    simp at this
    rcases this with h | h <;> rw [h] <;> rfl
  exact stm_13 t nu p tk tn r u h0 k0 _ ((g.ex H W).1 e)

theorem st_14 {n B b : Nat} {W : World} {k : Fo} (t : ByteArray) (nu p tk : Int) (tn : ByteArray) (r u : Int) (g : Gd n ⟨14, t, nu, p, tk, tn, r, u⟩ k) (H : k.All (PP B b)) : PrnT 116 ⟨14, t, nu, p, tk, tn, r, u⟩ k (rcT n ⟨14, t, nu, p, tk, tn, r, u⟩ k).st (n : Int) B b W := by
  have hc := g.parts.2.2.1
  simp [childrenFit, places] at hc
  obtain ⟨h0, k0, rfl, q0⟩ := fits_one hc
  have e : exprK h0.kind = true := by
    have := one_kind q0
    simp at this
    rw [this]; rfl
  exact stm_14 t nu p tk tn r u h0 k0 _ ((g.ex H W).1 e)

theorem st_15 {n B b : Nat} {W : World} {k : Fo} (t : ByteArray) (nu p tk : Int) (tn : ByteArray) (r u : Int) (g : Gd n ⟨15, t, nu, p, tk, tn, r, u⟩ k) (H : k.All (PP B b)) : PrnT 116 ⟨15, t, nu, p, tk, tn, r, u⟩ k (rcT n ⟨15, t, nu, p, tk, tn, r, u⟩ k).st (n : Int) B b W := by
  have hc := g.parts.2.2.1
  simp [childrenFit, places] at hc
  obtain ⟨h0, k0, rfl, q0⟩ := fits_one hc
  have e : exprK h0.kind = true := by
    have := one_kind q0
    simp at this
    rw [this]; rfl
  exact stm_15 t nu p tk tn r u h0 k0 _ ((g.ex H W).1 e)

theorem st_11 {n B b : Nat} {W : World} {k : Fo} (t : ByteArray) (nu p tk : Int) (tn : ByteArray) (r u : Int) (g : Gd n ⟨11, t, nu, p, tk, tn, r, u⟩ k) (H : k.All (PP B b)) : PrnT 116 ⟨11, t, nu, p, tk, tn, r, u⟩ k (rcT n ⟨11, t, nu, p, tk, tn, r, u⟩ k).st (n : Int) B b W := by
  have hc := g.parts.2.2.1
  simp [childrenFit, places] at hc
  obtain ⟨h0, k0, rfl, q0⟩ := fits_one hc
  exact stm_11 t nu p tk tn r u h0 k0 _ ((g.ex H W).1 q0)

theorem st_17 {n B b : Nat} {W : World} {k : Fo} (t : ByteArray) (nu p tk : Int) (tn : ByteArray) (r u : Int) (g : Gd n ⟨17, t, nu, p, tk, tn, r, u⟩ k) (H : k.All (PP B b)) : PrnT 116 ⟨17, t, nu, p, tk, tn, r, u⟩ k (rcT n ⟨17, t, nu, p, tk, tn, r, u⟩ k).st (n : Int) B b W := by
  have hc := g.parts.2.2.1
  simp [childrenFit, places] at hc
  obtain ⟨h0, k0, rfl, q0⟩ := fits_one hc
  exact stm_17 t nu p tk tn r u h0 k0 _ ((g.ex H W).1 q0)

theorem st_21 {n B b : Nat} {W : World} {k : Fo} (t : ByteArray) (nu p tk : Int) (tn : ByteArray) (r u : Int) (g : Gd n ⟨21, t, nu, p, tk, tn, r, u⟩ k) (H : k.All (PP B b)) : PrnT 116 ⟨21, t, nu, p, tk, tn, r, u⟩ k (rcT n ⟨21, t, nu, p, tk, tn, r, u⟩ k).st (n : Int) B b W := by
  have hc := g.parts.2.2.1
  simp [childrenFit, places] at hc
  obtain ⟨h0, k0, rfl, q0⟩ := fits_one hc
  exact stm_21 t nu p tk tn r u h0 k0 _ ((g.ex H W).1 q0)

theorem st_12 {n B b : Nat} {W : World} {k : Fo} (t : ByteArray) (nu p tk : Int) (tn : ByteArray) (r u : Int) (g : Gd n ⟨12, t, nu, p, tk, tn, r, u⟩ k) (H : k.All (PP B b)) : PrnT 116 ⟨12, t, nu, p, tk, tn, r, u⟩ k (rcT n ⟨12, t, nu, p, tk, tn, r, u⟩ k).st (n : Int) B b W := by
  have hc := g.parts.2.2.1
  simp [childrenFit, places] at hc
  obtain ⟨h0, k0, h1, k1, rfl, q0, q1⟩ := fits_two hc
  exact stm_12 t nu p tk tn r u h0 k0 _ h1 k1 _ ((g.ex H W).1 q0) ((g.ex H W).2.1 q1)

theorem st_16 {n B b : Nat} {W : World} {k : Fo} (t : ByteArray) (nu p tk : Int) (tn : ByteArray) (r u : Int) (g : Gd n ⟨16, t, nu, p, tk, tn, r, u⟩ k) (H : k.All (PP B b)) : PrnT 116 ⟨16, t, nu, p, tk, tn, r, u⟩ k (rcT n ⟨16, t, nu, p, tk, tn, r, u⟩ k).st (n : Int) B b W := by
  have hc := g.parts.2.2.1
  simp [childrenFit, places] at hc
  obtain ⟨h0, k0, h1, k1, rfl, q0, q1⟩ := fits_two hc
  exact stm_16 t nu p tk tn r u h0 k0 _ h1 k1 _ ((g.ex H W).1 q0) ((g.ex H W).2.1 q1)

theorem st_10_pp {n B b : Nat} {W : World} {k : Fo} (t : ByteArray) (nu p tk : Int) (tn : ByteArray) (r u : Int) (g : Gd n ⟨10, t, nu, p, tk, tn, r, u⟩ k) (H : k.All (PP B b)) : PrnT 116 ⟨10, t, nu, p, tk, tn, r, u⟩ k (rcT n ⟨10, t, nu, p, tk, tn, r, u⟩ k).st (n : Int) B b W :=
  stm_10 t nu p tk tn r u k _ (block_pp rfl g H)

theorem st_6 {n B b : Nat} {W : World} {k : Fo} (t : ByteArray) (nu p tk : Int) (tn : ByteArray) (r u : Int) (g : Gd n ⟨6, t, nu, p, tk, tn, r, u⟩ k) (H : k.All (PP B b)) : PrnT 116 ⟨6, t, nu, p, tk, tn, r, u⟩ k (rcT n ⟨6, t, nu, p, tk, tn, r, u⟩ k).st (n : Int) B b W := by
  have hc := g.parts.2.2.1
  simp [childrenFit, places] at hc
  obtain ⟨h0, k0, h1, k1, rfl, q0, q1⟩ := fits_two hc
  have hs0 : h0.text.size ≤ 20000 := g.sk.1.1
  refine stm_6 t nu p tk tn r u _ _ ?_
  simp only [opt, Bool.or_eq_true] at q1
  by_cases h9 : (h1.kind == 9) = true
  · have e : (rcT n ⟨6, t, nu, p, tk, tn, r, u⟩ (.cons h0 k0 (.cons h1 k1 .nil))).st = [118, 97, 114, 32] ++ t.data.toList ++ [32] ++ typeS h0 ++ [] := by
      show varS _ [rcT n h0 k0, rcT n h1 k1] = _
      have h9' : h1.kind = 9 := by simpa using h9
      simp [varS, nth, rcT_h, h9']
    rw [e]
    exact variable_no _ h0 h1 k0 k1 hs0 h9
  · have h9f : (h1.kind == 9) = false := by simpa using h9
    have q : exprK h1.kind = true := by rcases q1 with q | q; exact absurd q h9; exact q
    have e : (rcT n ⟨6, t, nu, p, tk, tn, r, u⟩ (.cons h0 k0 (.cons h1 k1 .nil))).st = [118, 97, 114, 32] ++ t.data.toList ++ [32] ++ typeS h0 ++ ([32, 61, 32] ++ (rcT n h1 k1).ex) := by
      show varS _ [rcT n h0 k0, rcT n h1 k1] = _
      have h9' : ¬ h1.kind = 9 := by simpa using h9
      simp [varS, nth, rcT_h, h9']
    rw [e]
    exact variable_yes _ h0 h1 k0 k1 _ ((g.ex H W).2.1 q) hs0 h9f

theorem st_18 {n B b : Nat} {W : World} {k : Fo} (t : ByteArray) (nu p tk : Int) (tn : ByteArray) (r u : Int) (g : Gd n ⟨18, t, nu, p, tk, tn, r, u⟩ k) (H : k.All (PP B b)) : PrnT 116 ⟨18, t, nu, p, tk, tn, r, u⟩ k (rcT n ⟨18, t, nu, p, tk, tn, r, u⟩ k).st (n : Int) B b W := by
  have hc := g.parts.2.2.1
  simp [childrenFit, places] at hc
  obtain ⟨h0, k0, h1, k1, h2, k2, rfl, q0, q1, q2⟩ := fits_three hc
  have e1 := one_kind q1
  simp at e1
  have P1 := (g.bl H W).2.1 e1
  rw [st_10 n h1 k1 e1] at P1
  refine stm_18 t nu p tk tn r u _ _ ?_
  simp only [opt, Bool.or_eq_true] at q2
  by_cases h9 : (h2.kind == 9) = true
  · have e : (rcT n ⟨18, t, nu, p, tk, tn, r, u⟩ (.cons h0 k0 (.cons h1 k1 (.cons h2 k2 .nil)))).st = [105, 102, 32] ++ (rcT n h0 k0).ex ++ [32] ++ blkS n (rcT n h1 k1).ls := by
      show stS n ⟨18, t, nu, p, tk, tn, r, u⟩ (linesS (n + 1) [rcT (n + 1) h0 k0, rcT (n + 1) h1 k1, rcT (n + 1) h2 k2]) [rcT n h0 k0, rcT n h1 k1, rcT n h2 k2] = _
      have h9' : h2.kind = 9 := by simpa using h9
      simp [stS, nth, rcT_h, h9']
    rw [e]
    exact cond_no _ h0 k0 _ h1 k1 _ h2 k2 ((g.ex H W).1 q0) P1 h9
  · have h9f : (h2.kind == 9) = false := by simpa using h9
    have q : stmtK h2.kind = true := by
      rcases q2 with q | q
      · exact absurd q h9
      · have := one_kind q
        simp at this
        rcases this with h | h <;> rw [h] <;> rfl
    have e : (rcT n ⟨18, t, nu, p, tk, tn, r, u⟩ (.cons h0 k0 (.cons h1 k1 (.cons h2 k2 .nil)))).st = [105, 102, 32] ++ (rcT n h0 k0).ex ++ [32] ++ blkS n (rcT n h1 k1).ls ++ [32, 101, 108, 115, 101, 32] ++ (rcT n h2 k2).st := by
      show stS n ⟨18, t, nu, p, tk, tn, r, u⟩ (linesS (n + 1) [rcT (n + 1) h0 k0, rcT (n + 1) h1 k1, rcT (n + 1) h2 k2]) [rcT n h0 k0, rcT n h1 k1, rcT n h2 k2] = _
      have h9' : ¬ h2.kind = 9 := by simpa using h9
      simp [stS, nth, rcT_h, h9']
    rw [e]
    exact cond_yes _ h0 k0 _ h1 k1 _ h2 k2 _ ((g.ex H W).1 q0) P1 ((g.st H W).2.2.1 q) h9f

theorem st_19 {n B b : Nat} {W : World} {k : Fo} (t : ByteArray) (nu p tk : Int) (tn : ByteArray) (r u : Int) (g : Gd n ⟨19, t, nu, p, tk, tn, r, u⟩ k) (H : k.All (PP B b)) : PrnT 116 ⟨19, t, nu, p, tk, tn, r, u⟩ k (rcT n ⟨19, t, nu, p, tk, tn, r, u⟩ k).st (n : Int) B b W := by
  have hc := g.parts.2.2.1
  simp [childrenFit, places] at hc
  obtain ⟨h0, k0, h1, k1, rfl, q0, q1⟩ := fits_two hc
  have e1 := one_kind q1
  simp at e1
  have P1 := (g.bl H W).2.1 e1
  rw [st_10 n h1 k1 e1] at P1
  refine stm_19 t nu p tk tn r u _ _ ?_
  simp only [opt, Bool.or_eq_true] at q0
  by_cases h9 : (h0.kind == 9) = true
  · have e : (rcT n ⟨19, t, nu, p, tk, tn, r, u⟩ (.cons h0 k0 (.cons h1 k1 .nil))).st = [102, 111, 114, 32] ++ blkS n (rcT n h1 k1).ls := by
      show stS n ⟨19, t, nu, p, tk, tn, r, u⟩ (linesS (n + 1) [rcT (n + 1) h0 k0, rcT (n + 1) h1 k1]) [rcT n h0 k0, rcT n h1 k1] = _
      have h9' : h0.kind = 9 := by simpa using h9
      simp [stS, nth, rcT_h, h9']
    rw [e]
    exact loop_no _ h0 k0 h1 k1 _ P1 h9
  · have h9f : (h0.kind == 9) = false := by simpa using h9
    have q : exprK h0.kind = true := by rcases q0 with q | q; exact absurd q h9; exact q
    have e : (rcT n ⟨19, t, nu, p, tk, tn, r, u⟩ (.cons h0 k0 (.cons h1 k1 .nil))).st = [102, 111, 114, 32] ++ (rcT n h0 k0).ex ++ [32] ++ blkS n (rcT n h1 k1).ls := by
      show stS n ⟨19, t, nu, p, tk, tn, r, u⟩ (linesS (n + 1) [rcT (n + 1) h0 k0, rcT (n + 1) h1 k1]) [rcT n h0 k0, rcT n h1 k1] = _
      have h9' : ¬ h0.kind = 9 := by simpa using h9
      simp [stS, nth, rcT_h, h9']
    rw [e]
    exact loop_yes _ h0 k0 _ h1 k1 _ ((g.ex H W).1 q) P1 h9f

theorem st_20 {n B b : Nat} {W : World} {k : Fo} (t : ByteArray) (nu p tk : Int) (tn : ByteArray) (r u : Int) (g : Gd n ⟨20, t, nu, p, tk, tn, r, u⟩ k) (H : k.All (PP B b)) : PrnT 116 ⟨20, t, nu, p, tk, tn, r, u⟩ k (rcT n ⟨20, t, nu, p, tk, tn, r, u⟩ k).st (n : Int) B b W := by
  have hc := g.parts.2.2.1
  simp [childrenFit, places] at hc
  obtain ⟨hm, hA⟩ := fits_rep hc
  have hE : k.All fun h' k' => PrnT 115 h' k' (rcT n h' k').ex (n : Int) B b W := all_imp (fun h k hh => hh.1 hh.2) (all_and (g.ex H W) hA)
  have hcn := g.c
  refine stm_20 t nu p tk tn r u _ _ ?_
  have := result_any (d := (n : Int)) (b := b) (B := B) (W := W) ⟨20, t, nu, p, tk, tn, r, u⟩ k (fun h' k' => (rcT n h' k').ex) hE (by omega)
  have e : (rcT n ⟨20, t, nu, p, tk, tn, r, u⟩ k).st = [114, 101, 116, 117, 114, 110] ++ flatF (fun h' k' => [32] ++ (rcT n h' k').ex) k := by
    show stS n ⟨20, t, nu, p, tk, tn, r, u⟩ (linesS (n + 1) (rcF k (n + 1))) (rcF k n) = _
    match k, hm with
    | .nil, _ => simp [stS, rcF, flatF_nil]
    | .cons h0 k0 .nil, _ => simp [stS, rcF_cons, flatF_cons, flatF_nil, nth, rcF]; rfl
    | .cons h0 k0 (.cons h1 k1 r), hm => simp only [Fo.len] at hm; omega
  rw [e]
  exact this

/-- A case of a select statement prints. -/
theorem case_pp {n B b : Nat} {W : World} {h : Hd} {k : Fo} (e : h.kind = 23) (g : Gd n h k) (H : k.All (PP B b)) :
    CaseP (n : Int) ((n + 1 : Nat) : Int) B b W (fun h' k' => (rcT (n + 1) h' k').st) (fun h' k' => (rcT n h' k').st) h k := by
  have hc := g.parts.2.2.1
  have gq := g.pq H W
  have hcn := g.c
  obtain ⟨kd, t, nu, p, tk, tn, r, u⟩ := h
  obtain rfl : kd = 23 := e
  simp [childrenFit, places] at hc
  obtain ⟨h0, k0, h1, k1, rfl, q0, q1⟩ := fits_two hc
  have e1 := one_kind q1
  simp at e1
  have hB := gq.2.1.ks e1
  have hck : k1.cnt ≤ 1048576 := by simp only [Fo.cnt] at hcn; omega
  have els : linF ((n + 1 : Nat) : Int) (fun h' k' => (rcT (n + 1) h' k').st) k1 = (rcT n h1 k1).ls := by rw [linF_st, rcT_ls]
  simp only [opt, Bool.or_eq_true] at q0
  by_cases h9 : (h0.kind == 9) = true
  · refine ⟨h0, k0, h1, k1, _, rfl, comm_no h0 k0 h9, hB, hck, ?_⟩
    rw [els]
    show stS n ⟨23, t, nu, p, tk, tn, r, u⟩ (linesS (n + 1) [rcT (n + 1) h0 k0, rcT (n + 1) h1 k1]) [rcT n h0 k0, rcT n h1 k1] = _
    have h9' : h0.kind = 9 := by simpa using h9
    simp [stS, caseS, nth, rcT_h, h9']
  · have h9f : (h0.kind == 9) = false := by simpa using h9
    have q : stmtK h0.kind = true := by
      rcases q0 with q | q
      · exact absurd q h9
      · simp only [commT, Bool.or_eq_true, Bool.and_eq_true, beq_iff_eq] at q
        rcases q with q | ⟨(q | q) | q, _⟩ <;> rw [q] <;> rfl
    refine ⟨h0, k0, h1, k1, _, rfl, comm_yes h0 k0 _ (gq.1.st q) h9f, hB, hck, ?_⟩
    rw [els]
    show stS n ⟨23, t, nu, p, tk, tn, r, u⟩ (linesS (n + 1) [rcT (n + 1) h0 k0, rcT (n + 1) h1 k1]) [rcT n h0 k0, rcT n h1 k1] = _
    have h9' : ¬ h0.kind = 9 := by simpa using h9
    simp [stS, caseS, nth, rcT_h, h9']

theorem st_22 {n B b : Nat} {W : World} {k : Fo} (t : ByteArray) (nu p tk : Int) (tn : ByteArray) (r u : Int) (g : Gd n ⟨22, t, nu, p, tk, tn, r, u⟩ k) (H : k.All (PP B b)) : PrnT 116 ⟨22, t, nu, p, tk, tn, r, u⟩ k (rcT n ⟨22, t, nu, p, tk, tn, r, u⟩ k).st (n : Int) B b W := by
  have hc := g.parts.2.2.1
  simp [childrenFit, places] at hc
  have hA := (fits_rep hc).2
  have hcn := g.c
  have hd := g.d
  have hC : k.All (CaseP (n : Int) ((n + 1 : Nat) : Int) B b W (fun h' k' => (rcT (n + 1) h' k').st) (fun h' k' => (rcT n h' k').st)) := all_imp (fun h k hh => hh.1.cs (by have := one_kind hh.2; simpa using this)) (all_and (g.pq H W) hA)
  refine stm_22 t nu p tk tn r u _ _ ?_
  have := choice_any (d := (n : Int)) (b := b) (B := B) (W := W) ⟨22, t, nu, p, tk, tn, r, u⟩ k _ _ (by omega) (by omega) (by omega) hC (by omega)
  rw [Int.toNat_natCast, flatF_st] at this
  exact this

theorem stmt_pp {n B b : Nat} {W : World} {h : Hd} {k : Fo} (he : stmtK h.kind = true) (g : Gd n h k) (H : k.All (PP B b)) : PrnT 116 h k (rcT n h k).st (n : Int) B b W := by
  obtain ⟨kd, t, nu, p, tk, tn, r, u⟩ := h
  simp only [stmtK, Bool.or_eq_true, beq_iff_eq] at he
  rcases he with ((((((((((((rfl | rfl) | rfl) | rfl) | rfl) | rfl) | rfl) | rfl) | rfl) | rfl) | rfl) | rfl) | rfl) | rfl
  · exact st_6 t nu p tk tn r u g H
  · exact st_10_pp t nu p tk tn r u g H
  · exact st_11 t nu p tk tn r u g H
  · exact st_12 t nu p tk tn r u g H
  · exact st_13 t nu p tk tn r u g H
  · exact st_14 t nu p tk tn r u g H
  · exact st_15 t nu p tk tn r u g H
  · exact st_16 t nu p tk tn r u g H
  · exact st_17 t nu p tk tn r u g H
  · exact st_21 t nu p tk tn r u g H
  · exact st_18 t nu p tk tn r u g H
  · exact st_19 t nu p tk tn r u g H
  · exact st_20 t nu p tk tn r u g H
  · exact st_22 t nu p tk tn r u g H
theorem pp_any (B b : Nat) (h : Hd) (k : Fo) : PP B b h k := Fo.ind (fun h k H n W g => ⟨fun e => expr_pp e g H, fun e => stmt_pp e g H, fun e => block_pp e g H, fun e => kids_pp e g H, fun e => case_pp e g H⟩) h k

end Go.Proofs.YticbcnhbpbaocaaGreatDoor
