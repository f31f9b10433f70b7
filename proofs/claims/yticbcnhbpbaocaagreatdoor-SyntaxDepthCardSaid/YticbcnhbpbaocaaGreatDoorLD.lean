/-
  The walk of the law SyntaxDepth: a function body with nested blocks.
-/
import Derived.Test.YticbcnhbpbaocaaGreatDoorLA
import Derived.RegionTactic
import Derived.BigRegion
set_option linter.all false
namespace Go.Proofs.YticbcnhbpbaocaaGreatDoor
open Go.RowKit T T.Fo

/-- i blocks, one in the other. -/
def nest : Nat → Fo
  | 0 => .nil
  | i + 1 => .cons hBlk (nest i) .nil
theorem nest_len_le (i : Nat) : (nest i).len ≤ 1 := by cases i <;> simp [nest, Fo.len]
theorem nest_cnt : ∀ i, (nest i).cnt = i
  | 0 => rfl
  | i + 1 => by simp only [nest, Fo.cnt, nest_cnt i]; omega
theorem nest_dep : ∀ i, (nest i).dep = i
  | 0 => rfl
  | i + 1 => by simp only [nest, Fo.dep, nest_dep i]; omega
theorem blk_text : textFits nm hBlk = true := by decide +kernel
theorem nest_kids (i : Nat) : childrenFit hBlk (nest i) = true := by
  cases i with
  | zero => decide
  | succ i => simp [nest, childrenFit, places, hx, Fo.len, fits, isS, stmtK]
theorem nest_ok : ∀ i, okF nm (nest i) = true
  | 0 => rfl
  | i + 1 => by
    simp only [nest, okF_cons, okT, Bool.and_eq_true]
    exact ⟨⟨⟨⟨blk_text, rfl⟩, nest_kids i⟩, nest_ok i⟩, rfl⟩
def fFunN (i : Nat) : Fo := .cons hPar fPar (.cons hBool .nil (.cons hBlk (nest i) .nil))
def fFileN (i : Nat) : Fo := .cons hVar fVar (.cons hFun (fFunN i) .nil)
theorem funN_kids (i : Nat) : childrenFit hFun (fFunN i) = true := by
  simp [fFunN, childrenFit, places, hx, fits, one, opt, isT, typeK]
theorem fileN_kids (i : Nat) : childrenFit hFile (fFileN i) = true := by
  simp [fFileN, childrenFit, places, hx, fits, declT, lastK, Fo.len]
theorem var_ok : okT nm hVar fVar = true := by
  have e : nm = fun s => M.nmB s.data.toList := funext fun s => M.nmS_eq s.data.toList
  rw [e]; decide +kernel
theorem par_ok : okT nm hPar fPar = true := by
  have e : nm = fun s => M.nmB s.data.toList := funext fun s => M.nmS_eq s.data.toList
  rw [e]; decide +kernel
theorem bool_ok : okT nm hBool .nil = true := by decide +kernel
theorem fun_text : textFits nm hFun = true := by
  have e : nm = fun s => M.nmB s.data.toList := funext fun s => M.nmS_eq s.data.toList
  rw [e]; decide +kernel
theorem file_text0 : textFits nm hFile = true := by decide +kernel
theorem fileN_ok (i : Nat) : okT nm hFile (fFileN i) = true := by
  have hb : okT nm hBlk (nest i) = true := by
    simp only [okT, Bool.and_eq_true]
    exact ⟨⟨⟨blk_text, rfl⟩, nest_kids i⟩, nest_ok i⟩
  have hf : okT nm hFun (fFunN i) = true := by
    have hk : okF nm (fFunN i) = true := by
      simp only [fFunN, okF_cons, Bool.and_eq_true]
      exact ⟨par_ok, bool_ok, hb, rfl⟩
    simp only [okT, Bool.and_eq_true]
    exact ⟨⟨⟨fun_text, rfl⟩, funN_kids i⟩, hk⟩
  have hk : okF nm (fFileN i) = true := by
    simp only [fFileN, okF_cons, Bool.and_eq_true]
    exact ⟨var_ok, hf, rfl⟩
  simp only [okT, Bool.and_eq_true]
  exact ⟨⟨⟨file_text0, rfl⟩, fileN_kids i⟩, hk⟩
theorem fileN_valid (i : Nat) : validT nm hFile (fFileN i) = decide ((i : Int) + 3 ≤ 50) := by
  have hd : (fFileN i).dep + 1 ≤ 50 ↔ i + 3 ≤ 50 := by
    have e1 : fVar.dep = 1 := rfl
    have e2 : fPar.dep = 2 := rfl
    simp only [fFileN, fFunN, Fo.dep, nest_dep, e1, e2]
    omega
  unfold validT
  rw [permT_dep, fileN_ok]
  rw [Bool.eq_iff_iff]
  simp only [Bool.true_and, Bool.and_eq_true, decide_eq_true_eq, hd, beq_iff_eq]
  constructor
  · rintro ⟨_, h⟩; omega
  · intro h; exact ⟨rfl, by omega⟩
theorem fileN_num (i : Nat) : (fFileN i).AllH numIx := by
  have hn : ∀ i, (nest i).AllH numIx := by
    intro i
    induction i with
    | zero => trivial
    | succ i ih => exact ⟨⟨by decide, by decide⟩, ih, trivial⟩
  have h := numIx_file.2
  exact ⟨h.1, h.2.1, ⟨h.2.2.1, ⟨h.2.2.2.1.1, h.2.2.2.1.2.1, h.2.2.2.1.2.2.1, trivial, ⟨by decide, by decide⟩, hn i, trivial⟩, trivial⟩⟩
end Go.Proofs.YticbcnhbpbaocaaGreatDoor
