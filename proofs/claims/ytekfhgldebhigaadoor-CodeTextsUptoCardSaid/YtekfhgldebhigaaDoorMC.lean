/-
  Plain mathematics of permitted programs: a wrong operand spoils a program. No program text is reached here.
-/
import Derived.Test.YtekfhgldebhigaaDoorMB
set_option linter.all false
namespace Go.Proofs.YtekfhgldebhigaaDoor.C
open Go Go.RowKit

def firsts (l : Bs) : Bool := l == [] || [100, 45, 114, 68, 82].contains (l.headD 0)
theorem ite_firsts (c : Prop) [Decidable c] (a b : Bs) (ha : firsts a = true) (hb : firsts b = true) : firsts (if c then a else b) = true := by
  split <;> assumption
theorem roles_firsts (op : Int) : firsts (roles op) = true := by
  unfold roles
  repeat' (first | (refine ite_firsts _ _ _ (by decide) ?_) | decide)
theorem roles_first {op : Int} {r0 r1 r2 : UInt8} (h : roles op = [r0, r1, r2]) : r0 = 100 ∨ r0 = 45 ∨ r0 = 114 ∨ r0 = 68 ∨ r0 = 82 := by
  have := roles_firsts op
  rw [h] at this
  simpa [firsts] using this
theorem first_small {p : Pg} {f : Fc} {x : In} (h : instrB p f x = true) (hr : f.regs ≤ 64) : x.a < 5000 := by
  obtain ⟨r0, r1, r2, er, _, ha, _⟩ := instr_parts h
  rcases roles_first er with rfl | rfl | rfl | rfl | rfl <;> simp [operandB] at ha <;> omega
/-- The program with another operand A at one instruction. -/
def setA (p : Pg) (i k : Nat) (v : Int) : Pg :=
  { p with funcs := p.funcs.modify i fun f => { f with code := f.code.modify k fun x => { x with a := v } } }
theorem set_spoils {p : Pg} {i k : Nat} {v : Int} (hi : i < p.funcs.length) (hk : k < p.funcs[i].code.length) (hv : 5000 ≤ v) : validB (setA p i k v) = false := by
  rw [← Bool.not_eq_true]
  intro h
  have hm : ({ p.funcs[i] with code := p.funcs[i].code.modify k fun x => { x with a := v } } : Fc) ∈ (setA p i k v).funcs := by
    unfold setA
    refine List.mem_iff_getElem.2 ⟨i, by simpa using hi, ?_⟩
    simp [List.getElem_modify]
  have H := valid_fn h hm
  have hk' : k < (p.funcs[i].code.modify k fun x => { x with a := v }).length := by simpa using hk
  have := (seq_at _ _ _ _ H.seq k hk').1
  have h2 := first_small this H.par.2.2
  simp [List.getElem_modify] at h2
  omega
end Go.Proofs.YtekfhgldebhigaaDoor.C
