/-
  Plain mathematics of valid trees, for the specification's functions: what is permitted, by kinds. No program text is reached here.
-/
import Derived.Test.YticbcnhbpbaocaaGreatDoorTA
set_option linter.all false
namespace Go.Proofs.YticbcnhbpbaocaaGreatDoor.T
open Fo
section
variable (nm : ByteArray → Bool)
def exOk (h : Hd) (k : Fo) : Bool := exprK h.kind && okT nm h k
def stOk (h : Hd) (k : Fo) : Bool := stmtK h.kind && okT nm h k
def kdOk (x : Int) (h : Hd) (k : Fo) : Bool := decide (h.kind = x) && okT nm h k
def noOk (h : Hd) (k : Fo) : Bool := decide (h.kind = 9) && okT nm h k
def coOk (h : Hd) (k : Fo) : Bool := (h.kind == 9 || commT h k) && okT nm h k
def tyOk (h : Hd) (k : Fo) : Bool := typeK h.kind && okT nm h k
def deOk (h : Hd) (k : Fo) : Bool := declT h k && okT nm h k
def allB (p : Pl) : Fo → Bool
  | .nil => true
  | .cons h k r => p h k && allB p r
def one1 (p : Pl) : Fo → Bool
  | .cons h k .nil => p h k
  | _ => false
def two2 (p q : Pl) : Fo → Bool
  | .cons h k (.cons h' k' .nil) => p h k && q h' k'
  | _ => false
def thr3 (p q r : Pl) : Fo → Bool
  | .cons h k (.cons h' k' (.cons h'' k'' .nil)) => p h k && (q h' k' && r h'' k'')
  | _ => false
theorem fitv_nil (k : Fo) : (fits [] k && okF nm k) = decide (k.len = 0) := by
  cases k with
  | nil => rfl
  | cons a b c => simp [fits, Fo.len]
theorem fitv_one (p : Pl) (k : Fo) : (fits [p] k && okF nm k) = one1 (fun h k => p h k && okT nm h k) k := by
  match k with
  | .nil => rfl
  | .cons h k .nil =>
    show ((p h k && true) && (okT nm h k && true)) = _
    simp [one1]
  | .cons h k (.cons _ _ _) => simp [fits, one1]
theorem fitv_two (p q : Pl) (k : Fo) : (fits [p, q] k && okF nm k) = two2 (fun h k => p h k && okT nm h k) (fun h k => q h k && okT nm h k) k := by
  match k with
  | .nil => rfl
  | .cons h k .nil => simp [fits, two2]
  | .cons h k (.cons h' k' .nil) =>
    show ((p h k && (q h' k' && true)) && (okT nm h k && (okT nm h' k' && true))) = _
    simp only [two2, Bool.and_true]
    cases p h k <;> cases q h' k' <;> cases okT nm h k <;> cases okT nm h' k' <;> rfl
  | .cons h k (.cons h' k' (.cons _ _ _)) => simp [fits, two2]
theorem fitv_thr (p q r : Pl) (k : Fo) : (fits [p, q, r] k && okF nm k) = thr3 (fun h k => p h k && okT nm h k) (fun h k => q h k && okT nm h k) (fun h k => r h k && okT nm h k) k := by
  match k with
  | .nil => rfl
  | .cons h k .nil => simp [fits, thr3]
  | .cons h k (.cons h' k' .nil) => simp [fits, thr3]
  | .cons h k (.cons h' k' (.cons h'' k'' .nil)) =>
    show ((p h k && (q h' k' && (r h'' k'' && true))) && (okT nm h k && (okT nm h' k' && (okT nm h'' k'' && true)))) = _
    simp only [thr3, Bool.and_true]
    cases p h k <;> cases q h' k' <;> cases r h'' k'' <;> cases okT nm h k <;> cases okT nm h' k' <;> cases okT nm h'' k'' <;> rfl
  | .cons h k (.cons h' k' (.cons h'' k'' (.cons _ _ _))) => simp [fits, thr3]
theorem fitv_rep (p : Pl) (k : Fo) : (fits (List.replicate k.len p) k && okF nm k) = allB (fun h k => p h k && okT nm h k) k := by
  induction k with
  | nil => rfl
  | cons h k r _ ih =>
    have e : (Fo.cons h k r).len = r.len + 1 := by simp only [Fo.len]; try omega
    rw [e, List.replicate_succ]
    show ((p h k && fits (List.replicate r.len p) r) && (okT nm h k && okF nm r)) = (p h k && okT nm h k && allB _ r)
    rw [← ih]
    cases p h k <;> cases okT nm h k <;> cases fits (List.replicate r.len p) r <;> cases okF nm r <;> rfl
theorem okT_of {h : Hd} {k : Fo} {l : List Pl} (e : places h.kind k.len = l) : okT nm h k = (textFits nm h && numFits h && (fits l k && okF nm k)) := by
  unfold okT childrenFit
  rw [e]
  cases textFits nm h <;> cases numFits h <;> rfl
theorem one1_len {p : Pl} {k : Fo} (e : ¬ k.len = 1) : one1 p k = false := by
  match k, e with
  | .nil, _ => rfl
  | .cons h k .nil, e => exact absurd rfl e
  | .cons h k (.cons _ _ _), _ => rfl
theorem two2_len {p q : Pl} {k : Fo} (e : ¬ k.len = 2) : two2 p q k = false := by
  match k, e with
  | .nil, _ => rfl
  | .cons h k .nil, e => rfl
  | .cons h k (.cons h' k' .nil), e => exact absurd rfl e
  | .cons h k (.cons _ _ (.cons _ _ _)), _ => rfl
theorem thr3_len {p q r : Pl} {k : Fo} (e : ¬ k.len = 3) : thr3 p q r k = false := by
  match k, e with
  | .nil, _ => rfl
  | .cons h k .nil, e => rfl
  | .cons h k (.cons h' k' .nil), e => rfl
  | .cons h k (.cons h' k' (.cons h'' k'' .nil)), e => exact absurd rfl e
  | .cons h k (.cons _ _ (.cons _ _ (.cons _ _ _))), _ => rfl
theorem two2_all {p : Pl} {k : Fo} (e : k.len = 2) : two2 p p k = allB p k := by
  match k, e with
  | .cons h k (.cons h' k' .nil), _ => simp [two2, allB]
  | .nil, e => cases e
  | .cons h k .nil, e => simp only [Fo.len] at e; omega
  | .cons h k (.cons _ _ (.cons _ _ r)), e => simp only [Fo.len] at e; omega
theorem is1 {k : Fo} (e : k.len = 1) : ∃ h0 k0, k = .cons h0 k0 .nil := by
  match k, e with
  | .nil, e => cases e
  | .cons h' k' .nil, _ => exact ⟨h', k', rfl⟩
  | .cons h' k' (.cons _ _ r), e => simp only [Fo.len] at e; omega
theorem is2 {k : Fo} (e : k.len = 2) : ∃ h0 k0 h1 k1, k = .cons h0 k0 (.cons h1 k1 .nil) := by
  match k, e with
  | .nil, e => cases e
  | .cons h k .nil, e => simp only [Fo.len] at e; omega
  | .cons h k (.cons h' k' .nil), _ => exact ⟨h, k, h', k', rfl⟩
  | .cons h k (.cons _ _ (.cons _ _ r)), e => simp only [Fo.len] at e; omega
theorem is3 {k : Fo} (e : k.len = 3) : ∃ h0 k0 h1 k1 h2 k2, k = .cons h0 k0 (.cons h1 k1 (.cons h2 k2 .nil)) := by
  match k, e with
  | .nil, e => cases e
  | .cons h k .nil, e => simp only [Fo.len] at e; omega
  | .cons h k (.cons h' k' .nil), e => simp only [Fo.len] at e; omega
  | .cons h k (.cons h' k' (.cons h'' k'' .nil)), _ => exact ⟨h, k, h', k', h'', k'', rfl⟩
  | .cons h k (.cons _ _ (.cons _ _ (.cons _ _ r))), e => simp only [Fo.len] at e; omega
end
end Go.Proofs.YticbcnhbpbaocaaGreatDoor.T
