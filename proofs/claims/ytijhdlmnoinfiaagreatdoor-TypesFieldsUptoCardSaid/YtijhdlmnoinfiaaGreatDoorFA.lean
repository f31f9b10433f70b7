/-
  The walks of the program's plain, isType, isName, valid, isReference.
-/
import Derived.Test.YtijhdlmnoinfiaaGreatDoorEB
import Derived.Test.YtijhdlmnoinfiaaGreatDoorQA
import Derived.Deep.RegionHeld3
set_option linter.all false
namespace Go.Proofs.YtijhdlmnoinfiaaGreatDoor
open Go.RowKit T T.Fo Ty

set_option maxRecDepth 100000 in
theorem plain_any (k : Int) (w : World) : Calls Tryz.prog 36 #[.int .i64 k] w fun e w' => e = .returned (tyv k ⟨#[]⟩) ∧ Below w.heap.size w w' := by
  go_enter Tryz.func36, Tryz.ntmps36
  go_wp2
  exact bodyPost_ret (v := tyv k ⟨#[]⟩) (by simp [results, Tryz.results36, go_sem]) rfl ⟨rfl, by
    repeat' (first | exact Below.refl _ _ | apply Below.setCell | apply Below.alloc)
    all_goals simp⟩

/-- A type that layer 3 permits: its text and that it has no children. -/
def tyB (h : Hd) (k : Fo) : Bool := typeK h.kind && textFits nm h && decide (k.len = 0)
def hNo : Hd := ⟨9, ⟨#[]⟩, 0, 0, 0, ⟨#[]⟩, 0, 0⟩
def hVa : Hd := ⟨6, ⟨#[120]⟩, 0, 0, 0, ⟨#[]⟩, 0, 0⟩
def hFi : Hd := ⟨1, ⟨#[]⟩, 0, 0, 0, ⟨#[]⟩, 0, 0⟩
/-- The file that the program asks about. -/
def fVa (h : Hd) (k : Fo) : Fo := .cons h k (.cons hNo .nil .nil)
def fFi (h : Hd) (k : Fo) : Fo := .cons hVa (fVa h k) .nil
theorem nm_eq (s : ByteArray) : nm s = nam s := M.nmS_eq _
theorem nm_x : nm ⟨#[120]⟩ = true := by rw [nm_eq]; unfold nam; decide
theorem fits_nil (k : Fo) : fits [] k = decide (k.len = 0) := by
  cases k with
  | nil => rfl
  | cons a b c => simp [fits, Fo.len]
theorem permF_nil0 (k : Fo) (d : Nat) (h : k.len = 0) : permF nm k d = true := by
  rw [len_zero h]; rfl
theorem perm_ty (h : Hd) (k : Fo) (hT : typeK h.kind = true) : permT nm h k 48 = (textFits nm h && decide (k.len = 0)) := by
  have hk : h.kind = 7 ∨ h.kind = 8 := by simpa [typeK] using hT
  have hp : childrenFit h k = decide (k.len = 0) := by
    unfold childrenFit
    have e : places h.kind k.len = [] := by rcases hk with e | e <;> rw [e] <;> rfl
    rw [e, fits_nil]
  have hn : numFits h = true := by unfold numFits; rcases hk with e | e <;> rw [e] <;> rfl
  unfold permT
  rw [hp, hn]
  by_cases h0 : k.len = 0
  · rw [permF_nil0 k _ h0]; simp
  · simp [h0]
theorem asks (h : Hd) (k : Fo) : validT nm hFi (fFi h k) = tyB h k := by
  have e0 : permT nm hNo .nil 48 = true := by
    unfold permT textFits numFits childrenFit; rfl
  have e1 : permF nm (fVa h k) 48 = (permT nm h k 48 && true) := by
    show (permT nm h k 48 && (permT nm hNo .nil 48 && true)) = _
    rw [e0]; rfl
  have e2 : childrenFit hVa (fVa h k) = typeK h.kind := by
    show (typeK h.kind && (true && true)) = _
    simp
  have e3 : textFits nm hVa = true := nm_x
  have e4 : permT nm hVa (fVa h k) 49 = (typeK h.kind && permF nm (fVa h k) 48) := by
    unfold permT
    rw [e2, e3]
    rfl
  have e5 : validT nm hFi (fFi h k) = permT nm hVa (fVa h k) 49 := by
    have e6 : childrenFit hFi (fFi h k) = true := rfl
    unfold validT permT
    rw [e6]
    show (true && (true && (true && true && true && (permT nm hVa (fVa h k) 49 && true)))) = _
    simp
    rfl
  rw [e5, e4, e1]
  unfold tyB
  cases hT : typeK h.kind with
  | false => rfl
  | true => rw [perm_ty h k hT]; simp
end Go.Proofs.YtijhdlmnoinfiaaGreatDoor
