/-
  Plain mathematics: the program's own way to permit a program, and that it is the same as the specification's. No program text is reached here.
-/
import Derived.Test.YtekfhgldebhigaaDoorMC
set_option linter.all false
namespace Go.Proofs.YtekfhgldebhigaaDoor.C
open Go Go.RowKit
/-- The program's table of roles. -/
def table : List Bs := [[], [100, 105, 45], [100, 45, 45], [100, 115, 45], [100, 115, 115], [100, 115, 115], [100, 115, 115], [100, 115, 115], [100, 115, 115], [100, 115, 45], [100, 115, 45], [100, 115, 115], [100, 115, 115], [100, 115, 115], [100, 115, 115], [100, 115, 45], [45, 45, 116], [115, 45, 116], [100, 103, 45], [100, 115, 111], [100, 115, 115], [100, 108, 45], [100, 115, 45], [100, 115, 45], [100, 102, 110], [100, 107, 45], [68, 102, 97], [115, 45, 45], [45, 102, 97], [115, 45, 45], [83, 45, 45], [45, 102, 97], [115, 45, 45], [100, 115, 45], [115, 115, 45], [100, 115, 45], [115, 115, 45], [100, 115, 115], [100, 115, 112], [115, 45, 45], [115, 45, 45], [115, 45, 45], [115, 45, 45], [115, 115, 45], [115, 45, 45], [115, 45, 116], [115, 45, 45], [115, 115, 45], [68, 115, 68], [115, 45, 45], [100, 99, 98], [115, 98, 68], [115, 45, 45]]
def rolesP (x : In) : Bs := if x.op < 0 ∨ 53 ≤ x.op then [] else if x.op = 51 ∧ x.b = 1 then [115, 98, 115] else table.getD x.op.toNat []
def limP (p : Pg) (f : Fc) (q : UInt8) : Int × Int :=
  if q = 100 ∨ q = 115 then (0, f.regs - 1)
  else if q = 68 ∨ q = 83 then (-1, f.regs - 1)
  else if q = 112 then (0, f.regs - 2)
  else if q = 97 then (0, f.regs)
  else if q = 110 then (0, 63)
  else if q = 107 then (0, 62)
  else if q = 105 then (-9223372036854775808, 9223372036854775807)
  else if q = 116 then (0, len f.code - 1)
  else if q = 103 then (0, len p.globals - 1)
  else if q = 108 then (0, len p.layouts - 1)
  else if q = 102 then (0, len p.funcs - 1)
  else if q = 111 then (0, 64)
  else if q = 99 then (0, 8)
  else if q = 98 then (0, 1)
  else (0, 0)
def inP (p : Pg) (f : Fc) (q : UInt8) (v : Int) : Bool := decide ((limP p f q).1 ≤ v ∧ v ≤ (limP p f q).2)
def extraP (p : Pg) (f : Fc) (x : In) : Bool :=
  if x.op = 16 ∨ x.op = 17 ∨ x.op = 45 then decide (¬ (f.code.getD x.c.toNat default).op = 51)
  else if x.op = 26 ∨ x.op = 28 ∨ x.op = 31 then decide ((p.funcs.getD x.b.toNat default).params ≤ f.regs - x.c)
  else if x.op = 24 then decide ((p.funcs.getD x.b.toNat default).params = 1 ∧ x.a + x.c < f.regs)
  else true
def fitsP (p : Pg) (f : Fc) (x : In) : Bool :=
  match rolesP x with
  | [q0, q1, q2] => inP p f q0 x.a && inP p f q1 x.b && inP p f q2 x.c && extraP p f x
  | _ => false
/-- What is asked of the instructions' numbers and of the functions that may be called. -/
structure Smooth (p : Pg) (f : Fc) : Prop where
  par : ∀ v : Int, 0 ≤ v → v < len p.funcs → 0 ≤ (p.funcs.getD v.toNat default).params ∧ (p.funcs.getD v.toNat default).params ≤ 64
  reg : 0 ≤ f.regs ∧ f.regs ≤ 64
def small (x : In) : Prop := -9223372036854775808 ≤ x.b ∧ x.b ≤ 9223372036854775807
theorem wrap_sub {a b : Int} (ha : 0 ≤ a ∧ a ≤ 64) (hb : 0 ≤ b ∧ b ≤ 64) : wrap64 (a - b) = a - b := by unfold wrap64; omega
theorem roles_out {op : Int} (h : op < 0 ∨ 53 ≤ op ∨ op = 0) : roles op = [] := by
  unfold roles
  repeat rw [if_neg (by omega)]
theorem rolesP_in {x : In} (h : 0 ≤ x.op ∧ x.op < 53) (h2 : ¬ (x.op = 51 ∧ x.b = 1)) : rolesP x = table.getD x.op.toNat [] := by
  unfold rolesP; rw [if_neg (by omega), if_neg h2]
theorem fe_1 {p : Pg} {f : Fc} {x : In} (H : Smooth p f) (hx : small x) (e : x.op = 1) : (decide (0 ≤ x.at') && fitsP p f x) = instrB p f x := by
  have h1 : rolesP x = [100, 105, 45] := by rw [rolesP_in (by omega) (by omega), e]; rfl
  have h2 : roles x.op = [100, 105, 45] := by rw [e]; decide
  have hr := H.reg
  have hs : -9223372036854775808 ≤ x.b ∧ x.b ≤ 9223372036854775807 := hx
  have hp := H.par x.b
  unfold fitsP instrB
  rw [h1, h2]
  rw [Bool.eq_iff_iff]
  simp [inP, limP, operandB, extraP, e]
  first | done | omega
theorem fe_2 {p : Pg} {f : Fc} {x : In} (H : Smooth p f) (hx : small x) (e : x.op = 2) : (decide (0 ≤ x.at') && fitsP p f x) = instrB p f x := by
  have h1 : rolesP x = [100, 45, 45] := by rw [rolesP_in (by omega) (by omega), e]; rfl
  have h2 : roles x.op = [100, 45, 45] := by rw [e]; decide
  have hr := H.reg
  have hs : -9223372036854775808 ≤ x.b ∧ x.b ≤ 9223372036854775807 := hx
  have hp := H.par x.b
  unfold fitsP instrB
  rw [h1, h2]
  rw [Bool.eq_iff_iff]
  simp [inP, limP, operandB, extraP, e]
  first | done | omega
theorem fe_3 {p : Pg} {f : Fc} {x : In} (H : Smooth p f) (hx : small x) (e : x.op = 3) : (decide (0 ≤ x.at') && fitsP p f x) = instrB p f x := by
  have h1 : rolesP x = [100, 115, 45] := by rw [rolesP_in (by omega) (by omega), e]; rfl
  have h2 : roles x.op = [100, 114, 45] := by rw [e]; decide
  have hr := H.reg
  have hs : -9223372036854775808 ≤ x.b ∧ x.b ≤ 9223372036854775807 := hx
  have hp := H.par x.b
  unfold fitsP instrB
  rw [h1, h2]
  rw [Bool.eq_iff_iff]
  simp [inP, limP, operandB, extraP, e]
  first | done | omega
theorem fe_4 {p : Pg} {f : Fc} {x : In} (H : Smooth p f) (hx : small x) (e : x.op = 4) : (decide (0 ≤ x.at') && fitsP p f x) = instrB p f x := by
  have h1 : rolesP x = [100, 115, 115] := by rw [rolesP_in (by omega) (by omega), e]; rfl
  have h2 : roles x.op = [100, 114, 114] := by rw [e]; decide
  have hr := H.reg
  have hs : -9223372036854775808 ≤ x.b ∧ x.b ≤ 9223372036854775807 := hx
  have hp := H.par x.b
  unfold fitsP instrB
  rw [h1, h2]
  rw [Bool.eq_iff_iff]
  simp [inP, limP, operandB, extraP, e]
  first | done | omega
theorem fe_5 {p : Pg} {f : Fc} {x : In} (H : Smooth p f) (hx : small x) (e : x.op = 5) : (decide (0 ≤ x.at') && fitsP p f x) = instrB p f x := by
  have h1 : rolesP x = [100, 115, 115] := by rw [rolesP_in (by omega) (by omega), e]; rfl
  have h2 : roles x.op = [100, 114, 114] := by rw [e]; decide
  have hr := H.reg
  have hs : -9223372036854775808 ≤ x.b ∧ x.b ≤ 9223372036854775807 := hx
  have hp := H.par x.b
  unfold fitsP instrB
  rw [h1, h2]
  rw [Bool.eq_iff_iff]
  simp [inP, limP, operandB, extraP, e]
  first | done | omega
theorem fe_6 {p : Pg} {f : Fc} {x : In} (H : Smooth p f) (hx : small x) (e : x.op = 6) : (decide (0 ≤ x.at') && fitsP p f x) = instrB p f x := by
  have h1 : rolesP x = [100, 115, 115] := by rw [rolesP_in (by omega) (by omega), e]; rfl
  have h2 : roles x.op = [100, 114, 114] := by rw [e]; decide
  have hr := H.reg
  have hs : -9223372036854775808 ≤ x.b ∧ x.b ≤ 9223372036854775807 := hx
  have hp := H.par x.b
  unfold fitsP instrB
  rw [h1, h2]
  rw [Bool.eq_iff_iff]
  simp [inP, limP, operandB, extraP, e]
  first | done | omega
theorem fe_7 {p : Pg} {f : Fc} {x : In} (H : Smooth p f) (hx : small x) (e : x.op = 7) : (decide (0 ≤ x.at') && fitsP p f x) = instrB p f x := by
  have h1 : rolesP x = [100, 115, 115] := by rw [rolesP_in (by omega) (by omega), e]; rfl
  have h2 : roles x.op = [100, 114, 114] := by rw [e]; decide
  have hr := H.reg
  have hs : -9223372036854775808 ≤ x.b ∧ x.b ≤ 9223372036854775807 := hx
  have hp := H.par x.b
  unfold fitsP instrB
  rw [h1, h2]
  rw [Bool.eq_iff_iff]
  simp [inP, limP, operandB, extraP, e]
  first | done | omega
theorem fe_8 {p : Pg} {f : Fc} {x : In} (H : Smooth p f) (hx : small x) (e : x.op = 8) : (decide (0 ≤ x.at') && fitsP p f x) = instrB p f x := by
  have h1 : rolesP x = [100, 115, 115] := by rw [rolesP_in (by omega) (by omega), e]; rfl
  have h2 : roles x.op = [100, 114, 114] := by rw [e]; decide
  have hr := H.reg
  have hs : -9223372036854775808 ≤ x.b ∧ x.b ≤ 9223372036854775807 := hx
  have hp := H.par x.b
  unfold fitsP instrB
  rw [h1, h2]
  rw [Bool.eq_iff_iff]
  simp [inP, limP, operandB, extraP, e]
  first | done | omega
theorem fe_9 {p : Pg} {f : Fc} {x : In} (H : Smooth p f) (hx : small x) (e : x.op = 9) : (decide (0 ≤ x.at') && fitsP p f x) = instrB p f x := by
  have h1 : rolesP x = [100, 115, 45] := by rw [rolesP_in (by omega) (by omega), e]; rfl
  have h2 : roles x.op = [100, 114, 45] := by rw [e]; decide
  have hr := H.reg
  have hs : -9223372036854775808 ≤ x.b ∧ x.b ≤ 9223372036854775807 := hx
  have hp := H.par x.b
  unfold fitsP instrB
  rw [h1, h2]
  rw [Bool.eq_iff_iff]
  simp [inP, limP, operandB, extraP, e]
  first | done | omega
theorem fe_10 {p : Pg} {f : Fc} {x : In} (H : Smooth p f) (hx : small x) (e : x.op = 10) : (decide (0 ≤ x.at') && fitsP p f x) = instrB p f x := by
  have h1 : rolesP x = [100, 115, 45] := by rw [rolesP_in (by omega) (by omega), e]; rfl
  have h2 : roles x.op = [100, 114, 45] := by rw [e]; decide
  have hr := H.reg
  have hs : -9223372036854775808 ≤ x.b ∧ x.b ≤ 9223372036854775807 := hx
  have hp := H.par x.b
  unfold fitsP instrB
  rw [h1, h2]
  rw [Bool.eq_iff_iff]
  simp [inP, limP, operandB, extraP, e]
  first | done | omega
theorem fe_11 {p : Pg} {f : Fc} {x : In} (H : Smooth p f) (hx : small x) (e : x.op = 11) : (decide (0 ≤ x.at') && fitsP p f x) = instrB p f x := by
  have h1 : rolesP x = [100, 115, 115] := by rw [rolesP_in (by omega) (by omega), e]; rfl
  have h2 : roles x.op = [100, 114, 114] := by rw [e]; decide
  have hr := H.reg
  have hs : -9223372036854775808 ≤ x.b ∧ x.b ≤ 9223372036854775807 := hx
  have hp := H.par x.b
  unfold fitsP instrB
  rw [h1, h2]
  rw [Bool.eq_iff_iff]
  simp [inP, limP, operandB, extraP, e]
  first | done | omega
theorem fe_12 {p : Pg} {f : Fc} {x : In} (H : Smooth p f) (hx : small x) (e : x.op = 12) : (decide (0 ≤ x.at') && fitsP p f x) = instrB p f x := by
  have h1 : rolesP x = [100, 115, 115] := by rw [rolesP_in (by omega) (by omega), e]; rfl
  have h2 : roles x.op = [100, 114, 114] := by rw [e]; decide
  have hr := H.reg
  have hs : -9223372036854775808 ≤ x.b ∧ x.b ≤ 9223372036854775807 := hx
  have hp := H.par x.b
  unfold fitsP instrB
  rw [h1, h2]
  rw [Bool.eq_iff_iff]
  simp [inP, limP, operandB, extraP, e]
  first | done | omega
theorem fe_13 {p : Pg} {f : Fc} {x : In} (H : Smooth p f) (hx : small x) (e : x.op = 13) : (decide (0 ≤ x.at') && fitsP p f x) = instrB p f x := by
  have h1 : rolesP x = [100, 115, 115] := by rw [rolesP_in (by omega) (by omega), e]; rfl
  have h2 : roles x.op = [100, 114, 114] := by rw [e]; decide
  have hr := H.reg
  have hs : -9223372036854775808 ≤ x.b ∧ x.b ≤ 9223372036854775807 := hx
  have hp := H.par x.b
  unfold fitsP instrB
  rw [h1, h2]
  rw [Bool.eq_iff_iff]
  simp [inP, limP, operandB, extraP, e]
  first | done | omega
theorem fe_14 {p : Pg} {f : Fc} {x : In} (H : Smooth p f) (hx : small x) (e : x.op = 14) : (decide (0 ≤ x.at') && fitsP p f x) = instrB p f x := by
  have h1 : rolesP x = [100, 115, 115] := by rw [rolesP_in (by omega) (by omega), e]; rfl
  have h2 : roles x.op = [100, 114, 114] := by rw [e]; decide
  have hr := H.reg
  have hs : -9223372036854775808 ≤ x.b ∧ x.b ≤ 9223372036854775807 := hx
  have hp := H.par x.b
  unfold fitsP instrB
  rw [h1, h2]
  rw [Bool.eq_iff_iff]
  simp [inP, limP, operandB, extraP, e]
  first | done | omega
theorem fe_15 {p : Pg} {f : Fc} {x : In} (H : Smooth p f) (hx : small x) (e : x.op = 15) : (decide (0 ≤ x.at') && fitsP p f x) = instrB p f x := by
  have h1 : rolesP x = [100, 115, 45] := by rw [rolesP_in (by omega) (by omega), e]; rfl
  have h2 : roles x.op = [100, 114, 45] := by rw [e]; decide
  have hr := H.reg
  have hs : -9223372036854775808 ≤ x.b ∧ x.b ≤ 9223372036854775807 := hx
  have hp := H.par x.b
  unfold fitsP instrB
  rw [h1, h2]
  rw [Bool.eq_iff_iff]
  simp [inP, limP, operandB, extraP, e]
  first | done | omega
theorem fe_16 {p : Pg} {f : Fc} {x : In} (H : Smooth p f) (hx : small x) (e : x.op = 16) : (decide (0 ≤ x.at') && fitsP p f x) = instrB p f x := by
  have h1 : rolesP x = [45, 45, 116] := by rw [rolesP_in (by omega) (by omega), e]; rfl
  have h2 : roles x.op = [45, 45, 106] := by rw [e]; decide
  have hr := H.reg
  have hs : -9223372036854775808 ≤ x.b ∧ x.b ≤ 9223372036854775807 := hx
  have hp := H.par x.b
  unfold fitsP instrB
  rw [h1, h2]
  rw [Bool.eq_iff_iff]
  simp [inP, limP, operandB, extraP, e]
  first | done | omega
theorem fe_17 {p : Pg} {f : Fc} {x : In} (H : Smooth p f) (hx : small x) (e : x.op = 17) : (decide (0 ≤ x.at') && fitsP p f x) = instrB p f x := by
  have h1 : rolesP x = [115, 45, 116] := by rw [rolesP_in (by omega) (by omega), e]; rfl
  have h2 : roles x.op = [114, 45, 106] := by rw [e]; decide
  have hr := H.reg
  have hs : -9223372036854775808 ≤ x.b ∧ x.b ≤ 9223372036854775807 := hx
  have hp := H.par x.b
  unfold fitsP instrB
  rw [h1, h2]
  rw [Bool.eq_iff_iff]
  simp [inP, limP, operandB, extraP, e]
  first | done | omega
theorem fe_18 {p : Pg} {f : Fc} {x : In} (H : Smooth p f) (hx : small x) (e : x.op = 18) : (decide (0 ≤ x.at') && fitsP p f x) = instrB p f x := by
  have h1 : rolesP x = [100, 103, 45] := by rw [rolesP_in (by omega) (by omega), e]; rfl
  have h2 : roles x.op = [100, 103, 45] := by rw [e]; decide
  have hr := H.reg
  have hs : -9223372036854775808 ≤ x.b ∧ x.b ≤ 9223372036854775807 := hx
  have hp := H.par x.b
  unfold fitsP instrB
  rw [h1, h2]
  rw [Bool.eq_iff_iff]
  simp [inP, limP, operandB, extraP, e]
  first | done | omega
theorem fe_19 {p : Pg} {f : Fc} {x : In} (H : Smooth p f) (hx : small x) (e : x.op = 19) : (decide (0 ≤ x.at') && fitsP p f x) = instrB p f x := by
  have h1 : rolesP x = [100, 115, 111] := by rw [rolesP_in (by omega) (by omega), e]; rfl
  have h2 : roles x.op = [100, 114, 110] := by rw [e]; decide
  have hr := H.reg
  have hs : -9223372036854775808 ≤ x.b ∧ x.b ≤ 9223372036854775807 := hx
  have hp := H.par x.b
  unfold fitsP instrB
  rw [h1, h2]
  rw [Bool.eq_iff_iff]
  simp [inP, limP, operandB, extraP, e]
  first | done | omega
theorem fe_20 {p : Pg} {f : Fc} {x : In} (H : Smooth p f) (hx : small x) (e : x.op = 20) : (decide (0 ≤ x.at') && fitsP p f x) = instrB p f x := by
  have h1 : rolesP x = [100, 115, 115] := by rw [rolesP_in (by omega) (by omega), e]; rfl
  have h2 : roles x.op = [100, 114, 114] := by rw [e]; decide
  have hr := H.reg
  have hs : -9223372036854775808 ≤ x.b ∧ x.b ≤ 9223372036854775807 := hx
  have hp := H.par x.b
  unfold fitsP instrB
  rw [h1, h2]
  rw [Bool.eq_iff_iff]
  simp [inP, limP, operandB, extraP, e]
  first | done | omega
theorem fe_21 {p : Pg} {f : Fc} {x : In} (H : Smooth p f) (hx : small x) (e : x.op = 21) : (decide (0 ≤ x.at') && fitsP p f x) = instrB p f x := by
  have h1 : rolesP x = [100, 108, 45] := by rw [rolesP_in (by omega) (by omega), e]; rfl
  have h2 : roles x.op = [100, 108, 45] := by rw [e]; decide
  have hr := H.reg
  have hs : -9223372036854775808 ≤ x.b ∧ x.b ≤ 9223372036854775807 := hx
  have hp := H.par x.b
  unfold fitsP instrB
  rw [h1, h2]
  rw [Bool.eq_iff_iff]
  simp [inP, limP, operandB, extraP, e]
  first | done | omega
theorem fe_22 {p : Pg} {f : Fc} {x : In} (H : Smooth p f) (hx : small x) (e : x.op = 22) : (decide (0 ≤ x.at') && fitsP p f x) = instrB p f x := by
  have h1 : rolesP x = [100, 115, 45] := by rw [rolesP_in (by omega) (by omega), e]; rfl
  have h2 : roles x.op = [100, 114, 45] := by rw [e]; decide
  have hr := H.reg
  have hs : -9223372036854775808 ≤ x.b ∧ x.b ≤ 9223372036854775807 := hx
  have hp := H.par x.b
  unfold fitsP instrB
  rw [h1, h2]
  rw [Bool.eq_iff_iff]
  simp [inP, limP, operandB, extraP, e]
  first | done | omega
theorem fe_23 {p : Pg} {f : Fc} {x : In} (H : Smooth p f) (hx : small x) (e : x.op = 23) : (decide (0 ≤ x.at') && fitsP p f x) = instrB p f x := by
  have h1 : rolesP x = [100, 115, 45] := by rw [rolesP_in (by omega) (by omega), e]; rfl
  have h2 : roles x.op = [100, 114, 45] := by rw [e]; decide
  have hr := H.reg
  have hs : -9223372036854775808 ≤ x.b ∧ x.b ≤ 9223372036854775807 := hx
  have hp := H.par x.b
  unfold fitsP instrB
  rw [h1, h2]
  rw [Bool.eq_iff_iff]
  simp [inP, limP, operandB, extraP, e]
  first | done | omega
theorem fe_24 {p : Pg} {f : Fc} {x : In} (H : Smooth p f) (hx : small x) (e : x.op = 24) : (decide (0 ≤ x.at') && fitsP p f x) = instrB p f x := by
  have h1 : rolesP x = [100, 102, 110] := by rw [rolesP_in (by omega) (by omega), e]; rfl
  have h2 : roles x.op = [100, 49, 110] := by rw [e]; decide
  have hr := H.reg
  have hs : -9223372036854775808 ≤ x.b ∧ x.b ≤ 9223372036854775807 := hx
  have hp := H.par x.b
  unfold fitsP instrB
  rw [h1, h2]
  rw [Bool.eq_iff_iff]
  simp [inP, limP, operandB, extraP, e]
  first | done | omega
theorem fe_25 {p : Pg} {f : Fc} {x : In} (H : Smooth p f) (hx : small x) (e : x.op = 25) : (decide (0 ≤ x.at') && fitsP p f x) = instrB p f x := by
  have h1 : rolesP x = [100, 107, 45] := by rw [rolesP_in (by omega) (by omega), e]; rfl
  have h2 : roles x.op = [100, 110, 45] := by rw [e]; decide
  have hr := H.reg
  have hs : -9223372036854775808 ≤ x.b ∧ x.b ≤ 9223372036854775807 := hx
  have hp := H.par x.b
  unfold fitsP instrB
  rw [h1, h2]
  rw [Bool.eq_iff_iff]
  simp [inP, limP, operandB, extraP, e]
  first | done | omega
theorem fe_26 {p : Pg} {f : Fc} {x : In} (H : Smooth p f) (hx : small x) (e : x.op = 26) : (decide (0 ≤ x.at') && fitsP p f x) = instrB p f x := by
  have h1 : rolesP x = [68, 102, 97] := by rw [rolesP_in (by omega) (by omega), e]; rfl
  have h2 : roles x.op = [68, 102, 97] := by rw [e]; decide
  have hr := H.reg
  have hs : -9223372036854775808 ≤ x.b ∧ x.b ≤ 9223372036854775807 := hx
  have hp := H.par x.b
  unfold fitsP instrB
  rw [h1, h2]
  rw [Bool.eq_iff_iff]
  simp [inP, limP, operandB, extraP, e]
  simp at hp
  constructor
  · intro h
    have hp := hp (by omega) (by omega)
    have hw := wrap_sub hr hp
    omega
  · intro h
    have hp := hp (by omega) (by omega)
    have hw := wrap_sub hr hp
    rw [hw] at h
    omega
theorem fe_27 {p : Pg} {f : Fc} {x : In} (H : Smooth p f) (hx : small x) (e : x.op = 27) : (decide (0 ≤ x.at') && fitsP p f x) = instrB p f x := by
  have h1 : rolesP x = [115, 45, 45] := by rw [rolesP_in (by omega) (by omega), e]; rfl
  have h2 : roles x.op = [114, 45, 45] := by rw [e]; decide
  have hr := H.reg
  have hs : -9223372036854775808 ≤ x.b ∧ x.b ≤ 9223372036854775807 := hx
  have hp := H.par x.b
  unfold fitsP instrB
  rw [h1, h2]
  rw [Bool.eq_iff_iff]
  simp [inP, limP, operandB, extraP, e]
  first | done | omega
theorem fe_28 {p : Pg} {f : Fc} {x : In} (H : Smooth p f) (hx : small x) (e : x.op = 28) : (decide (0 ≤ x.at') && fitsP p f x) = instrB p f x := by
  have h1 : rolesP x = [45, 102, 97] := by rw [rolesP_in (by omega) (by omega), e]; rfl
  have h2 : roles x.op = [45, 102, 97] := by rw [e]; decide
  have hr := H.reg
  have hs : -9223372036854775808 ≤ x.b ∧ x.b ≤ 9223372036854775807 := hx
  have hp := H.par x.b
  unfold fitsP instrB
  rw [h1, h2]
  rw [Bool.eq_iff_iff]
  simp [inP, limP, operandB, extraP, e]
  simp at hp
  constructor
  · intro h
    have hp := hp (by omega) (by omega)
    have hw := wrap_sub hr hp
    omega
  · intro h
    have hp := hp (by omega) (by omega)
    have hw := wrap_sub hr hp
    rw [hw] at h
    omega
theorem fe_29 {p : Pg} {f : Fc} {x : In} (H : Smooth p f) (hx : small x) (e : x.op = 29) : (decide (0 ≤ x.at') && fitsP p f x) = instrB p f x := by
  have h1 : rolesP x = [115, 45, 45] := by rw [rolesP_in (by omega) (by omega), e]; rfl
  have h2 : roles x.op = [114, 45, 45] := by rw [e]; decide
  have hr := H.reg
  have hs : -9223372036854775808 ≤ x.b ∧ x.b ≤ 9223372036854775807 := hx
  have hp := H.par x.b
  unfold fitsP instrB
  rw [h1, h2]
  rw [Bool.eq_iff_iff]
  simp [inP, limP, operandB, extraP, e]
  first | done | omega
theorem fe_30 {p : Pg} {f : Fc} {x : In} (H : Smooth p f) (hx : small x) (e : x.op = 30) : (decide (0 ≤ x.at') && fitsP p f x) = instrB p f x := by
  have h1 : rolesP x = [83, 45, 45] := by rw [rolesP_in (by omega) (by omega), e]; rfl
  have h2 : roles x.op = [82, 45, 45] := by rw [e]; decide
  have hr := H.reg
  have hs : -9223372036854775808 ≤ x.b ∧ x.b ≤ 9223372036854775807 := hx
  have hp := H.par x.b
  unfold fitsP instrB
  rw [h1, h2]
  rw [Bool.eq_iff_iff]
  simp [inP, limP, operandB, extraP, e]
  first | done | omega
theorem fe_31 {p : Pg} {f : Fc} {x : In} (H : Smooth p f) (hx : small x) (e : x.op = 31) : (decide (0 ≤ x.at') && fitsP p f x) = instrB p f x := by
  have h1 : rolesP x = [45, 102, 97] := by rw [rolesP_in (by omega) (by omega), e]; rfl
  have h2 : roles x.op = [45, 102, 97] := by rw [e]; decide
  have hr := H.reg
  have hs : -9223372036854775808 ≤ x.b ∧ x.b ≤ 9223372036854775807 := hx
  have hp := H.par x.b
  unfold fitsP instrB
  rw [h1, h2]
  rw [Bool.eq_iff_iff]
  simp [inP, limP, operandB, extraP, e]
  simp at hp
  constructor
  · intro h
    have hp := hp (by omega) (by omega)
    have hw := wrap_sub hr hp
    omega
  · intro h
    have hp := hp (by omega) (by omega)
    have hw := wrap_sub hr hp
    rw [hw] at h
    omega
theorem fe_32 {p : Pg} {f : Fc} {x : In} (H : Smooth p f) (hx : small x) (e : x.op = 32) : (decide (0 ≤ x.at') && fitsP p f x) = instrB p f x := by
  have h1 : rolesP x = [115, 45, 45] := by rw [rolesP_in (by omega) (by omega), e]; rfl
  have h2 : roles x.op = [114, 45, 45] := by rw [e]; decide
  have hr := H.reg
  have hs : -9223372036854775808 ≤ x.b ∧ x.b ≤ 9223372036854775807 := hx
  have hp := H.par x.b
  unfold fitsP instrB
  rw [h1, h2]
  rw [Bool.eq_iff_iff]
  simp [inP, limP, operandB, extraP, e]
  first | done | omega
theorem fe_33 {p : Pg} {f : Fc} {x : In} (H : Smooth p f) (hx : small x) (e : x.op = 33) : (decide (0 ≤ x.at') && fitsP p f x) = instrB p f x := by
  have h1 : rolesP x = [100, 115, 45] := by rw [rolesP_in (by omega) (by omega), e]; rfl
  have h2 : roles x.op = [100, 114, 45] := by rw [e]; decide
  have hr := H.reg
  have hs : -9223372036854775808 ≤ x.b ∧ x.b ≤ 9223372036854775807 := hx
  have hp := H.par x.b
  unfold fitsP instrB
  rw [h1, h2]
  rw [Bool.eq_iff_iff]
  simp [inP, limP, operandB, extraP, e]
  first | done | omega
theorem fe_34 {p : Pg} {f : Fc} {x : In} (H : Smooth p f) (hx : small x) (e : x.op = 34) : (decide (0 ≤ x.at') && fitsP p f x) = instrB p f x := by
  have h1 : rolesP x = [115, 115, 45] := by rw [rolesP_in (by omega) (by omega), e]; rfl
  have h2 : roles x.op = [114, 114, 45] := by rw [e]; decide
  have hr := H.reg
  have hs : -9223372036854775808 ≤ x.b ∧ x.b ≤ 9223372036854775807 := hx
  have hp := H.par x.b
  unfold fitsP instrB
  rw [h1, h2]
  rw [Bool.eq_iff_iff]
  simp [inP, limP, operandB, extraP, e]
  first | done | omega
theorem fe_35 {p : Pg} {f : Fc} {x : In} (H : Smooth p f) (hx : small x) (e : x.op = 35) : (decide (0 ≤ x.at') && fitsP p f x) = instrB p f x := by
  have h1 : rolesP x = [100, 115, 45] := by rw [rolesP_in (by omega) (by omega), e]; rfl
  have h2 : roles x.op = [100, 114, 45] := by rw [e]; decide
  have hr := H.reg
  have hs : -9223372036854775808 ≤ x.b ∧ x.b ≤ 9223372036854775807 := hx
  have hp := H.par x.b
  unfold fitsP instrB
  rw [h1, h2]
  rw [Bool.eq_iff_iff]
  simp [inP, limP, operandB, extraP, e]
  first | done | omega
theorem fe_36 {p : Pg} {f : Fc} {x : In} (H : Smooth p f) (hx : small x) (e : x.op = 36) : (decide (0 ≤ x.at') && fitsP p f x) = instrB p f x := by
  have h1 : rolesP x = [115, 115, 45] := by rw [rolesP_in (by omega) (by omega), e]; rfl
  have h2 : roles x.op = [114, 114, 45] := by rw [e]; decide
  have hr := H.reg
  have hs : -9223372036854775808 ≤ x.b ∧ x.b ≤ 9223372036854775807 := hx
  have hp := H.par x.b
  unfold fitsP instrB
  rw [h1, h2]
  rw [Bool.eq_iff_iff]
  simp [inP, limP, operandB, extraP, e]
  first | done | omega
theorem fe_37 {p : Pg} {f : Fc} {x : In} (H : Smooth p f) (hx : small x) (e : x.op = 37) : (decide (0 ≤ x.at') && fitsP p f x) = instrB p f x := by
  have h1 : rolesP x = [100, 115, 115] := by rw [rolesP_in (by omega) (by omega), e]; rfl
  have h2 : roles x.op = [100, 114, 114] := by rw [e]; decide
  have hr := H.reg
  have hs : -9223372036854775808 ≤ x.b ∧ x.b ≤ 9223372036854775807 := hx
  have hp := H.par x.b
  unfold fitsP instrB
  rw [h1, h2]
  rw [Bool.eq_iff_iff]
  simp [inP, limP, operandB, extraP, e]
  first | done | omega
theorem fe_38 {p : Pg} {f : Fc} {x : In} (H : Smooth p f) (hx : small x) (e : x.op = 38) : (decide (0 ≤ x.at') && fitsP p f x) = instrB p f x := by
  have h1 : rolesP x = [100, 115, 112] := by rw [rolesP_in (by omega) (by omega), e]; rfl
  have h2 : roles x.op = [100, 114, 114] := by rw [e]; decide
  have hr := H.reg
  have hs : -9223372036854775808 ≤ x.b ∧ x.b ≤ 9223372036854775807 := hx
  have hp := H.par x.b
  unfold fitsP instrB
  rw [h1, h2]
  rw [Bool.eq_iff_iff]
  simp [inP, limP, operandB, extraP, e]
  first | done | omega
theorem fe_39 {p : Pg} {f : Fc} {x : In} (H : Smooth p f) (hx : small x) (e : x.op = 39) : (decide (0 ≤ x.at') && fitsP p f x) = instrB p f x := by
  have h1 : rolesP x = [115, 45, 45] := by rw [rolesP_in (by omega) (by omega), e]; rfl
  have h2 : roles x.op = [114, 45, 45] := by rw [e]; decide
  have hr := H.reg
  have hs : -9223372036854775808 ≤ x.b ∧ x.b ≤ 9223372036854775807 := hx
  have hp := H.par x.b
  unfold fitsP instrB
  rw [h1, h2]
  rw [Bool.eq_iff_iff]
  simp [inP, limP, operandB, extraP, e]
  first | done | omega
theorem fe_40 {p : Pg} {f : Fc} {x : In} (H : Smooth p f) (hx : small x) (e : x.op = 40) : (decide (0 ≤ x.at') && fitsP p f x) = instrB p f x := by
  have h1 : rolesP x = [115, 45, 45] := by rw [rolesP_in (by omega) (by omega), e]; rfl
  have h2 : roles x.op = [114, 45, 45] := by rw [e]; decide
  have hr := H.reg
  have hs : -9223372036854775808 ≤ x.b ∧ x.b ≤ 9223372036854775807 := hx
  have hp := H.par x.b
  unfold fitsP instrB
  rw [h1, h2]
  rw [Bool.eq_iff_iff]
  simp [inP, limP, operandB, extraP, e]
  first | done | omega
theorem fe_41 {p : Pg} {f : Fc} {x : In} (H : Smooth p f) (hx : small x) (e : x.op = 41) : (decide (0 ≤ x.at') && fitsP p f x) = instrB p f x := by
  have h1 : rolesP x = [115, 45, 45] := by rw [rolesP_in (by omega) (by omega), e]; rfl
  have h2 : roles x.op = [114, 45, 45] := by rw [e]; decide
  have hr := H.reg
  have hs : -9223372036854775808 ≤ x.b ∧ x.b ≤ 9223372036854775807 := hx
  have hp := H.par x.b
  unfold fitsP instrB
  rw [h1, h2]
  rw [Bool.eq_iff_iff]
  simp [inP, limP, operandB, extraP, e]
  first | done | omega
theorem fe_42 {p : Pg} {f : Fc} {x : In} (H : Smooth p f) (hx : small x) (e : x.op = 42) : (decide (0 ≤ x.at') && fitsP p f x) = instrB p f x := by
  have h1 : rolesP x = [115, 45, 45] := by rw [rolesP_in (by omega) (by omega), e]; rfl
  have h2 : roles x.op = [114, 45, 45] := by rw [e]; decide
  have hr := H.reg
  have hs : -9223372036854775808 ≤ x.b ∧ x.b ≤ 9223372036854775807 := hx
  have hp := H.par x.b
  unfold fitsP instrB
  rw [h1, h2]
  rw [Bool.eq_iff_iff]
  simp [inP, limP, operandB, extraP, e]
  first | done | omega
theorem fe_43 {p : Pg} {f : Fc} {x : In} (H : Smooth p f) (hx : small x) (e : x.op = 43) : (decide (0 ≤ x.at') && fitsP p f x) = instrB p f x := by
  have h1 : rolesP x = [115, 115, 45] := by rw [rolesP_in (by omega) (by omega), e]; rfl
  have h2 : roles x.op = [114, 114, 45] := by rw [e]; decide
  have hr := H.reg
  have hs : -9223372036854775808 ≤ x.b ∧ x.b ≤ 9223372036854775807 := hx
  have hp := H.par x.b
  unfold fitsP instrB
  rw [h1, h2]
  rw [Bool.eq_iff_iff]
  simp [inP, limP, operandB, extraP, e]
  first | done | omega
theorem fe_44 {p : Pg} {f : Fc} {x : In} (H : Smooth p f) (hx : small x) (e : x.op = 44) : (decide (0 ≤ x.at') && fitsP p f x) = instrB p f x := by
  have h1 : rolesP x = [115, 45, 45] := by rw [rolesP_in (by omega) (by omega), e]; rfl
  have h2 : roles x.op = [114, 45, 45] := by rw [e]; decide
  have hr := H.reg
  have hs : -9223372036854775808 ≤ x.b ∧ x.b ≤ 9223372036854775807 := hx
  have hp := H.par x.b
  unfold fitsP instrB
  rw [h1, h2]
  rw [Bool.eq_iff_iff]
  simp [inP, limP, operandB, extraP, e]
  first | done | omega
theorem fe_45 {p : Pg} {f : Fc} {x : In} (H : Smooth p f) (hx : small x) (e : x.op = 45) : (decide (0 ≤ x.at') && fitsP p f x) = instrB p f x := by
  have h1 : rolesP x = [115, 45, 116] := by rw [rolesP_in (by omega) (by omega), e]; rfl
  have h2 : roles x.op = [114, 45, 106] := by rw [e]; decide
  have hr := H.reg
  have hs : -9223372036854775808 ≤ x.b ∧ x.b ≤ 9223372036854775807 := hx
  have hp := H.par x.b
  unfold fitsP instrB
  rw [h1, h2]
  rw [Bool.eq_iff_iff]
  simp [inP, limP, operandB, extraP, e]
  first | done | omega
theorem fe_46 {p : Pg} {f : Fc} {x : In} (H : Smooth p f) (hx : small x) (e : x.op = 46) : (decide (0 ≤ x.at') && fitsP p f x) = instrB p f x := by
  have h1 : rolesP x = [115, 45, 45] := by rw [rolesP_in (by omega) (by omega), e]; rfl
  have h2 : roles x.op = [114, 45, 45] := by rw [e]; decide
  have hr := H.reg
  have hs : -9223372036854775808 ≤ x.b ∧ x.b ≤ 9223372036854775807 := hx
  have hp := H.par x.b
  unfold fitsP instrB
  rw [h1, h2]
  rw [Bool.eq_iff_iff]
  simp [inP, limP, operandB, extraP, e]
  first | done | omega
theorem fe_47 {p : Pg} {f : Fc} {x : In} (H : Smooth p f) (hx : small x) (e : x.op = 47) : (decide (0 ≤ x.at') && fitsP p f x) = instrB p f x := by
  have h1 : rolesP x = [115, 115, 45] := by rw [rolesP_in (by omega) (by omega), e]; rfl
  have h2 : roles x.op = [114, 114, 45] := by rw [e]; decide
  have hr := H.reg
  have hs : -9223372036854775808 ≤ x.b ∧ x.b ≤ 9223372036854775807 := hx
  have hp := H.par x.b
  unfold fitsP instrB
  rw [h1, h2]
  rw [Bool.eq_iff_iff]
  simp [inP, limP, operandB, extraP, e]
  first | done | omega
theorem fe_48 {p : Pg} {f : Fc} {x : In} (H : Smooth p f) (hx : small x) (e : x.op = 48) : (decide (0 ≤ x.at') && fitsP p f x) = instrB p f x := by
  have h1 : rolesP x = [68, 115, 68] := by rw [rolesP_in (by omega) (by omega), e]; rfl
  have h2 : roles x.op = [68, 114, 68] := by rw [e]; decide
  have hr := H.reg
  have hs : -9223372036854775808 ≤ x.b ∧ x.b ≤ 9223372036854775807 := hx
  have hp := H.par x.b
  unfold fitsP instrB
  rw [h1, h2]
  rw [Bool.eq_iff_iff]
  simp [inP, limP, operandB, extraP, e]
  first | done | omega
theorem fe_49 {p : Pg} {f : Fc} {x : In} (H : Smooth p f) (hx : small x) (e : x.op = 49) : (decide (0 ≤ x.at') && fitsP p f x) = instrB p f x := by
  have h1 : rolesP x = [115, 45, 45] := by rw [rolesP_in (by omega) (by omega), e]; rfl
  have h2 : roles x.op = [114, 45, 45] := by rw [e]; decide
  have hr := H.reg
  have hs : -9223372036854775808 ≤ x.b ∧ x.b ≤ 9223372036854775807 := hx
  have hp := H.par x.b
  unfold fitsP instrB
  rw [h1, h2]
  rw [Bool.eq_iff_iff]
  simp [inP, limP, operandB, extraP, e]
  first | done | omega
theorem fe_50 {p : Pg} {f : Fc} {x : In} (H : Smooth p f) (hx : small x) (e : x.op = 50) : (decide (0 ≤ x.at') && fitsP p f x) = instrB p f x := by
  have h1 : rolesP x = [100, 99, 98] := by rw [rolesP_in (by omega) (by omega), e]; rfl
  have h2 : roles x.op = [100, 115, 98] := by rw [e]; decide
  have hr := H.reg
  have hs : -9223372036854775808 ≤ x.b ∧ x.b ≤ 9223372036854775807 := hx
  have hp := H.par x.b
  unfold fitsP instrB
  rw [h1, h2]
  rw [Bool.eq_iff_iff]
  simp [inP, limP, operandB, extraP, e]
  first | done | omega
theorem fe_52 {p : Pg} {f : Fc} {x : In} (H : Smooth p f) (hx : small x) (e : x.op = 52) : (decide (0 ≤ x.at') && fitsP p f x) = instrB p f x := by
  have h1 : rolesP x = [115, 45, 45] := by rw [rolesP_in (by omega) (by omega), e]; rfl
  have h2 : roles x.op = [114, 45, 45] := by rw [e]; decide
  have hr := H.reg
  have hs : -9223372036854775808 ≤ x.b ∧ x.b ≤ 9223372036854775807 := hx
  have hp := H.par x.b
  unfold fitsP instrB
  rw [h1, h2]
  rw [Bool.eq_iff_iff]
  simp [inP, limP, operandB, extraP, e]
  first | done | omega
theorem fe_51 {p : Pg} {f : Fc} {x : In} (H : Smooth p f) (hx : small x) (e : x.op = 51) : (decide (0 ≤ x.at') && fitsP p f x) = instrB p f x := by
  have h2 : roles x.op = [114, 98, 99] := by rw [e]; decide
  have hr := H.reg
  by_cases c : x.b = 1
  · have h1 : rolesP x = [115, 98, 115] := by unfold rolesP; rw [if_neg (by omega), if_pos ⟨e, c⟩]
    unfold fitsP instrB
    rw [h1, h2, Bool.eq_iff_iff]
    simp [inP, limP, operandB, extraP, e, c]
    first | done | omega
  · have h1 : rolesP x = [115, 98, 68] := by rw [rolesP_in (by omega) (by omega), e]; rfl
    unfold fitsP instrB
    rw [h1, h2, Bool.eq_iff_iff]
    simp [inP, limP, operandB, extraP, e, c]
    first | done | omega
theorem fits_eq {p : Pg} {f : Fc} {x : In} (H : Smooth p f) (hx : small x) : (decide (0 ≤ x.at') && fitsP p f x) = instrB p f x := by
  by_cases h : 1 ≤ x.op ∧ x.op < 53
  · have : x.op = 1 ∨ x.op = 2 ∨ x.op = 3 ∨ x.op = 4 ∨ x.op = 5 ∨ x.op = 6 ∨ x.op = 7 ∨ x.op = 8 ∨ x.op = 9 ∨ x.op = 10 ∨ x.op = 11 ∨ x.op = 12 ∨ x.op = 13 ∨ x.op = 14 ∨ x.op = 15 ∨ x.op = 16 ∨ x.op = 17 ∨ x.op = 18 ∨ x.op = 19 ∨ x.op = 20 ∨ x.op = 21 ∨ x.op = 22 ∨ x.op = 23 ∨ x.op = 24 ∨ x.op = 25 ∨ x.op = 26 ∨ x.op = 27 ∨ x.op = 28 ∨ x.op = 29 ∨ x.op = 30 ∨ x.op = 31 ∨ x.op = 32 ∨ x.op = 33 ∨ x.op = 34 ∨ x.op = 35 ∨ x.op = 36 ∨ x.op = 37 ∨ x.op = 38 ∨ x.op = 39 ∨ x.op = 40 ∨ x.op = 41 ∨ x.op = 42 ∨ x.op = 43 ∨ x.op = 44 ∨ x.op = 45 ∨ x.op = 46 ∨ x.op = 47 ∨ x.op = 48 ∨ x.op = 49 ∨ x.op = 50 ∨ x.op = 51 ∨ x.op = 52 := by omega
    rcases this with e | e | e | e | e | e | e | e | e | e | e | e | e | e | e | e | e | e | e | e | e | e | e | e | e | e | e | e | e | e | e | e | e | e | e | e | e | e | e | e | e | e | e | e | e | e | e | e | e | e | e | e
    · exact fe_1 H hx e
    · exact fe_2 H hx e
    · exact fe_3 H hx e
    · exact fe_4 H hx e
    · exact fe_5 H hx e
    · exact fe_6 H hx e
    · exact fe_7 H hx e
    · exact fe_8 H hx e
    · exact fe_9 H hx e
    · exact fe_10 H hx e
    · exact fe_11 H hx e
    · exact fe_12 H hx e
    · exact fe_13 H hx e
    · exact fe_14 H hx e
    · exact fe_15 H hx e
    · exact fe_16 H hx e
    · exact fe_17 H hx e
    · exact fe_18 H hx e
    · exact fe_19 H hx e
    · exact fe_20 H hx e
    · exact fe_21 H hx e
    · exact fe_22 H hx e
    · exact fe_23 H hx e
    · exact fe_24 H hx e
    · exact fe_25 H hx e
    · exact fe_26 H hx e
    · exact fe_27 H hx e
    · exact fe_28 H hx e
    · exact fe_29 H hx e
    · exact fe_30 H hx e
    · exact fe_31 H hx e
    · exact fe_32 H hx e
    · exact fe_33 H hx e
    · exact fe_34 H hx e
    · exact fe_35 H hx e
    · exact fe_36 H hx e
    · exact fe_37 H hx e
    · exact fe_38 H hx e
    · exact fe_39 H hx e
    · exact fe_40 H hx e
    · exact fe_41 H hx e
    · exact fe_42 H hx e
    · exact fe_43 H hx e
    · exact fe_44 H hx e
    · exact fe_45 H hx e
    · exact fe_46 H hx e
    · exact fe_47 H hx e
    · exact fe_48 H hx e
    · exact fe_49 H hx e
    · exact fe_50 H hx e
    · exact fe_51 H hx e
    · exact fe_52 H hx e
  · have h2 : roles x.op = [] := roles_out (by omega)
    have h1 : rolesP x = [] := by
      unfold rolesP
      by_cases c : x.op < 0 ∨ 53 ≤ x.op
      · rw [if_pos c]
      · rw [if_neg c, if_neg (by omega), show x.op = 0 by omega]; rfl
    unfold fitsP instrB
    rw [h1, h2]; simp

/-! ### the cases behind a select -/
def leadC : List In → Nat
  | [] => 0
  | x :: r => if x.op = 51 then leadC r + 1 else 0
def tailsOk : List In → Bool
  | [] => true
  | x :: r => (decide (x.op = 51) || decide ((leadC r : Int) = if x.op = 50 then x.b else 0)) && tailsOk r
def seqC : Int → List In → Bool
  | _, [] => true
  | left, x :: r => (decide (0 < left) == decide (x.op = 51)) && seqC (after left x) r
theorem seq_split (p : Pg) (f : Fc) : ∀ (code : List In) (l : Int), seqB p f l code = (seqC l code && code.all (instrB p f))
  | [], _ => rfl
  | x :: r, l => by
    unfold seqB seqC
    rw [seq_split p f r, List.all_cons]
    cases (decide (0 < l) == decide (x.op = 51)) <;> cases instrB p f x <;> cases seqC (after l x) r <;> simp
theorem seqC_eq : ∀ (code : List In) (l : Int), 0 ≤ l → ¬ code = [] → ((code.getLast?.getD default).op = 30 ∨ (code.getLast?.getD default).op = 16) → (∀ x ∈ code, x.op = 50 → 0 ≤ x.b) →
    seqC l code = (decide ((leadC code : Int) = l) && tailsOk code)
  | [], _, _, h, _, _ => absurd rfl h
  | [x], l, hl, _, hlast, hb => by
    simp at hlast
    have h50 : ¬ x.op = 50 := by omega
    have h51 : ¬ x.op = 51 := by omega
    unfold seqC seqC tailsOk tailsOk leadC
    rw [if_neg h51, if_neg h50, Bool.eq_iff_iff]
    simp [leadC, h51]
    omega
  | x :: y :: r, l, hl, _, hlast, hb => by
    have hlast' : (((y :: r).getLast?.getD default).op = 30 ∨ ((y :: r).getLast?.getD default).op = 16) := by
      rw [List.getLast?_cons_cons] at hlast; exact hlast
    have hb' : ∀ z ∈ y :: r, z.op = 50 → 0 ≤ z.b := fun z hz => hb z (List.mem_cons_of_mem _ hz)
    by_cases h51 : x.op = 51
    · have h50 : ¬ x.op = 50 := by omega
      by_cases h0 : 0 < l
      · have ih := seqC_eq (y :: r) (l - 1) (by omega) (by simp) hlast' hb'
        have ha : after l x = l - 1 := by unfold after; rw [if_neg h50, if_pos h0]
        have hlead : leadC (x :: y :: r) = leadC (y :: r) + 1 := by rw [leadC, if_pos h51]
        have ht : tailsOk (x :: y :: r) = tailsOk (y :: r) := by rw [tailsOk]; simp [h51]
        rw [seqC, ha, ih, hlead, ht]
        rw [Bool.eq_iff_iff]
        simp [h51, h0]
        intro _; omega
      · have hlead : leadC (x :: y :: r) = leadC (y :: r) + 1 := by rw [leadC, if_pos h51]
        rw [seqC, hlead]
        rw [Bool.eq_iff_iff]
        simp [h51, h0]
        omega
    · have hlead : leadC (x :: y :: r) = 0 := by rw [leadC, if_neg h51]
      by_cases h0 : l = 0
      · subst h0
        have ha : after 0 x = if x.op = 50 then x.b else 0 := by unfold after; split <;> simp
        have hnn : 0 ≤ after 0 x := by rw [ha]; split; exact hb x (List.mem_cons_self) ‹_›; exact Int.le_refl _
        have ih := seqC_eq (y :: r) (after 0 x) hnn (by simp) hlast' hb'
        have ht : tailsOk (x :: y :: r) = (decide ((leadC (y :: r) : Int) = if x.op = 50 then x.b else 0) && tailsOk (y :: r)) := by rw [tailsOk]; simp [h51]
        rw [seqC, ih, hlead, ht, ha]
        simp [h51]
      · rw [seqC, hlead]
        rw [Bool.eq_iff_iff]
        simp [h51, show 0 < l by omega]
        omega
/-! ### the whole -/
def sizesP (f : Fc) : Bool := decide (0 ≤ f.params ∧ f.params ≤ f.regs ∧ f.regs ≤ 64 ∧ 1 ≤ f.code.length ∧ f.code.length ≤ 1000)
def endP (f : Fc) : Bool := decide ((f.code.getLast?.getD default).op = 30 ∨ (f.code.getLast?.getD default).op = 16)
def casesP (f : Fc) : Bool := tailsOk f.code && decide (¬ (f.code.getD 0 default).op = 51)
def operandsP (p : Pg) (f : Fc) : Bool := f.code.all fun x => decide (0 ≤ x.at') && fitsP p f x
def namesOk (l : List ByteArray) : Bool := decide (l.Nodup) && l.all fun s => decide (¬ s.data.toList = [])
def namesP (p : Pg) : Bool := namesOk (p.funcs.map (·.name)) && namesOk (p.globals.map (·.name))
def kindsOk (l : List Int) : Bool := l.all fun k => decide (k = 0 ∨ k = 1)
def kindsP (p : Pg) : Bool := (p.layouts.all fun l => decide (l.length ≤ 64) && kindsOk l) && kindsOk (p.globals.map (·.kind))
def mainP (p : Pg) : Bool := decide (0 ≤ p.main ∧ p.main < len p.funcs ∧ (p.funcs.getD p.main.toNat default).params = 0)
def fnP (p : Pg) (f : Fc) : Bool := sizesP f && endP f && casesP f && operandsP p f
def validP (p : Pg) : Bool :=
  decide (p.funcs.length ≤ 64 ∧ p.globals.length ≤ 64 ∧ p.layouts.length ≤ 32) && namesP p && kindsP p && mainP p && p.funcs.all (fnP p)
theorem casesP_lead {f : Fc} (h : ¬ f.code = []) : decide (¬ (f.code.getD 0 default).op = 51) = decide ((leadC f.code : Int) = 0) := by
  cases hc : f.code with
  | nil => exact absurd hc h
  | cons x r =>
    rw [Bool.eq_iff_iff]
    simp [leadC]
theorem fnP_eq {p : Pg} {f : Fc} (H : ∀ v : Int, 0 ≤ v → v < len p.funcs → 0 ≤ (p.funcs.getD v.toNat default).params ∧ (p.funcs.getD v.toNat default).params ≤ 64)
    (hx : ∀ x ∈ f.code, small x) (hn : ¬ f.name.data.toList = []) : fnP p f = functionB p f := by
  unfold fnP functionB
  by_cases hs : sizesP f = true
  · have hs' := hs
    unfold sizesP at hs'
    simp only [decide_eq_true_eq] at hs'
    have S : Smooth p f := ⟨H, by omega⟩
    have hne : ¬ f.code = [] := fun e => by rw [e] at hs'; simp at hs'
    have hop : operandsP p f = f.code.all (instrB p f) := by
      unfold operandsP
      rw [Bool.eq_iff_iff, List.all_eq_true, List.all_eq_true]
      exact ⟨fun h x m => by rw [← fits_eq S (hx x m)]; exact h x m, fun h x m => by rw [fits_eq S (hx x m)]; exact h x m⟩
    have hd : decide (¬ f.name.data.toList = [] ∧ 0 ≤ f.params ∧ f.params ≤ f.regs ∧ f.regs ≤ 64 ∧ 0 < f.code.length ∧ f.code.length ≤ 1000) = true := by
      rw [decide_eq_true_eq]; exact ⟨hn, by omega, by omega, by omega, by omega, by omega⟩
    rw [hd, hs, hop, seq_split, Bool.true_and, Bool.true_and]
    by_cases he : endP f = true
    · have he' := he
      unfold endP at he'
      have he2 := he'
      simp only [decide_eq_true_eq] at he2
      rw [he, he', Bool.true_and, Bool.true_and]
      by_cases ha : f.code.all (instrB p f) = true
      · have hsel : ∀ x ∈ f.code, x.op = 50 → 0 ≤ x.b := fun x m e => by
          have := List.all_eq_true.1 ha x m
          obtain ⟨r0, r1, r2, er, _, _, hb, _⟩ := instr_parts this
          rw [e, show roles 50 = [100, 115, 98] by decide] at er
          simp only [List.cons.injEq] at er
          obtain ⟨rfl, rfl, rfl, _⟩ := er
          simp [operandB] at hb
          exact hb.1
        rw [ha, seqC_eq f.code 0 (Int.le_refl _) hne he2 hsel]
        unfold casesP
        rw [casesP_lead hne, Bool.and_comm (tailsOk _)]
      · have : f.code.all (instrB p f) = false := by simpa using ha
        rw [this, Bool.and_false, Bool.and_false]
    · have he' : endP f = false := by simpa using he
      have he2 : decide ((f.code.getLast?.getD default).op = 30 ∨ (f.code.getLast?.getD default).op = 16) = false := he'
      rw [he', he2]; simp
  · have hs' : sizesP f = false := by simpa using hs
    have hd : decide (¬ f.name.data.toList = [] ∧ 0 ≤ f.params ∧ f.params ≤ f.regs ∧ f.regs ≤ 64 ∧ 0 < f.code.length ∧ f.code.length ≤ 1000) = false := by
      unfold sizesP at hs'
      rw [decide_eq_false_iff_not] at hs' ⊢
      exact fun h => hs' ⟨h.2.1, h.2.2.1, h.2.2.2.1, by omega, h.2.2.2.2.2⟩
    rw [hs', hd]; simp
theorem sizes_par {f : Fc} (h : sizesP f = true) : 0 ≤ f.params ∧ f.params ≤ 64 := by
  unfold sizesP at h; simp only [decide_eq_true_eq] at h; omega
theorem fnB_sizes {p : Pg} {f : Fc} (h : functionB p f = true) : sizesP f = true := by
  have := fn_ok h
  unfold sizesP; rw [decide_eq_true_eq]
  have h1 := this.par; have h2 := this.len
  omega
theorem kinds_eq (l : List (List Int)) : ((l.all fun l => decide (l.length ≤ 64) && kindsOk l) && decide (l.length ≤ 32)) = layoutsB l := by
  unfold layoutsB kindsOk
  congr 1
  rw [Bool.eq_iff_iff, List.all_eq_true, List.all_eq_true]
  exact ⟨fun h x m => by rw [Bool.and_comm]; exact h x m, fun h x m => by rw [Bool.and_comm]; exact h x m⟩
theorem globals_eq (l : List Gl) : (namesOk (l.map (·.name)) && kindsOk (l.map (·.kind))) = (l.all (fun g => decide (¬ g.name.data.toList = [] ∧ (g.kind = 0 ∨ g.kind = 1))) && decide ((l.map (·.name)).Nodup)) := by
  unfold namesOk kindsOk
  rw [Bool.eq_iff_iff]
  simp only [Bool.and_eq_true, List.all_eq_true, decide_eq_true_eq, List.mem_map]
  constructor
  · rintro ⟨⟨h1, h2⟩, h3⟩
    exact ⟨fun g m => ⟨h2 _ ⟨g, m, rfl⟩, h3 _ ⟨g, m, rfl⟩⟩, h1⟩
  · rintro ⟨h1, h2⟩
    refine ⟨⟨h2, ?_⟩, ?_⟩
    · rintro _ ⟨g, m, rfl⟩; exact (h1 g m).1
    · rintro _ ⟨g, m, rfl⟩; exact (h1 g m).2
theorem all_imp {α : Type} {l : List α} {P Q : α → Bool} (h : ∀ x ∈ l, P x = Q x) : l.all P = l.all Q := by
  rw [Bool.eq_iff_iff, List.all_eq_true, List.all_eq_true]
  exact ⟨fun k x m => by rw [← h x m]; exact k x m, fun k x m => by rw [h x m]; exact k x m⟩
/-- The two ways to permit a program are one. -/
theorem validP_eq {p : Pg} (hx : ∀ f ∈ p.funcs, ∀ x ∈ f.code, small x) : validP p = validB p := by
  have main : (namesOk (p.funcs.map (·.name)) && p.funcs.all (fnP p)) = (p.funcs.all (functionB p) && decide ((p.funcs.map (·.name)).Nodup)) := by
    by_cases hn : ∀ f ∈ p.funcs, ¬ f.name.data.toList = []
    · have e1 : namesOk (p.funcs.map (·.name)) = decide ((p.funcs.map (·.name)).Nodup) := by
        unfold namesOk
        have : ((p.funcs.map (·.name)).all fun s => decide (¬ s.data.toList = [])) = true := by
          rw [List.all_eq_true]; intro s m
          obtain ⟨f, hf, rfl⟩ := List.mem_map.1 m
          simpa using hn f hf
        rw [this, Bool.and_true]
      rw [e1, Bool.and_comm]
      congr 1
      by_cases hs : ∀ f ∈ p.funcs, sizesP f = true
      · have H : ∀ v : Int, 0 ≤ v → v < len p.funcs → 0 ≤ (p.funcs.getD v.toNat default).params ∧ (p.funcs.getD v.toNat default).params ≤ 64 := fun v h1 h2 => sizes_par (hs _ (getD_mem ⟨h1, h2⟩))
        exact all_imp fun f m => fnP_eq H (hx f m) (hn f m)
      · have a1 : p.funcs.all (fnP p) = false := by
          rw [← Bool.not_eq_true, List.all_eq_true]
          exact fun h => hs fun f m => by have := h f m; unfold fnP at this; simp only [Bool.and_eq_true] at this; exact this.1.1.1
        have a2 : p.funcs.all (functionB p) = false := by
          rw [← Bool.not_eq_true, List.all_eq_true]
          exact fun h => hs fun f m => fnB_sizes (h f m)
        rw [a1, a2]
    · have a1 : namesOk (p.funcs.map (·.name)) = false := by
        unfold namesOk
        rw [← Bool.not_eq_true, Bool.and_eq_true, List.all_eq_true]
        exact fun h => hn fun f m => by simpa using h.2 _ (List.mem_map.2 ⟨f, m, rfl⟩)
      have a2 : p.funcs.all (functionB p) = false := by
        rw [← Bool.not_eq_true, List.all_eq_true]
        exact fun h => hn fun f m => (fn_ok (h f m)).name
      rw [a1, a2]; simp
  have hl := kinds_eq p.layouts
  have hg := globals_eq p.globals
  unfold validP validB namesP kindsP mainP
  rw [← hl]
  have e1 : decide (p.funcs.length ≤ 64 ∧ p.globals.length ≤ 64 ∧ p.layouts.length ≤ 32) = (decide (p.funcs.length ≤ 64 ∧ p.globals.length ≤ 64) && decide (p.layouts.length ≤ 32)) := by
    rw [Bool.eq_iff_iff]; simp; omega
  rw [e1]
  generalize decide (p.funcs.length ≤ 64 ∧ p.globals.length ≤ 64) = b1 at *
  generalize decide (p.layouts.length ≤ 32) = b2 at *
  generalize namesOk (p.funcs.map (·.name)) = b3 at *
  generalize namesOk (p.globals.map (·.name)) = b4 at *
  generalize (p.layouts.all fun l => decide (l.length ≤ 64) && kindsOk l) = b5 at *
  generalize kindsOk (p.globals.map (·.kind)) = b6 at *
  generalize p.funcs.all (fnP p) = b7 at *
  generalize p.funcs.all (functionB p) = b8 at *
  generalize decide ((p.funcs.map (·.name)).Nodup) = b9 at *
  generalize (p.globals.all (fun g => decide (¬ g.name.data.toList = [] ∧ (g.kind = 0 ∨ g.kind = 1)))) = c1 at *
  generalize decide ((p.globals.map (·.name)).Nodup) = c2 at *
  generalize decide (0 ≤ p.main ∧ p.main < len p.funcs ∧ (p.funcs.getD p.main.toNat default).params = 0) = c3 at *
  clear hl e1
  revert main hg
  cases b1 <;> cases b2 <;> cases b3 <;> cases b4 <;> cases b5 <;> cases b6 <;> cases b7 <;> simp <;> intros <;> simp_all
end Go.Proofs.YtekfhgldebhigaaDoor.C
