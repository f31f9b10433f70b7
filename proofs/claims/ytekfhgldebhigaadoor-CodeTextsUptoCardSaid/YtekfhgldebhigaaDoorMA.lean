/-
  Plain mathematics of programs (chapter 9): permitted programs, what an instruction reads and writes, what follows. No program text is reached here.
-/
import Derived.Below
import Derived.RowKit
set_option linter.all false
namespace Go.Proofs.YtekfhgldebhigaaDoor.C
open Go Go.RowKit

abbrev Bs := List UInt8
structure In where
  op : Int
  a : Int
  b : Int
  c : Int
  at' : Int
deriving DecidableEq, Inhabited
structure Fc where
  name : ByteArray
  params : Int
  regs : Int
  code : List In
deriving DecidableEq, Inhabited
structure Gl where
  name : ByteArray
  kind : Int
deriving DecidableEq
structure Pg where
  funcs : List Fc
  globals : List Gl
  layouts : List (List Int)
  main : Int
deriving DecidableEq

/-- The roles of the operands, as letters. -/
def roles (op : Int) : Bs :=
  if op = 1 then [100, 105, 45]
  else if op = 2 then [100, 45, 45]
  else if op = 3 ∨ op = 9 ∨ op = 10 ∨ op = 15 ∨ op = 22 ∨ op = 23 ∨ op = 33 ∨ op = 35 then [100, 114, 45]
  else if (4 ≤ op ∧ op ≤ 8) ∨ (11 ≤ op ∧ op ≤ 14) ∨ op = 20 ∨ op = 37 ∨ op = 38 then [100, 114, 114]
  else if op = 16 then [45, 45, 106]
  else if op = 17 ∨ op = 45 then [114, 45, 106]
  else if op = 18 then [100, 103, 45]
  else if op = 19 then [100, 114, 110]
  else if op = 21 then [100, 108, 45]
  else if op = 24 then [100, 49, 110]
  else if op = 25 then [100, 110, 45]
  else if op = 26 then [68, 102, 97]
  else if op = 28 ∨ op = 31 then [45, 102, 97]
  else if op = 30 then [82, 45, 45]
  else if op = 34 ∨ op = 36 ∨ op = 43 ∨ op = 47 then [114, 114, 45]
  else if op = 27 ∨ op = 29 ∨ op = 32 ∨ (39 ≤ op ∧ op ≤ 42) ∨ op = 44 ∨ op = 46 ∨ op = 49 ∨ op = 52 then [114, 45, 45]
  else if op = 48 then [68, 114, 68]
  else if op = 50 then [100, 115, 98]
  else if op = 51 then [114, 98, 99]
  else []

def len {α : Type} (l : List α) : Int := (l.length : Int)
/-- An operand. -/
def operandB (p : Pg) (f : Fc) (x : In) (role : UInt8) (v : Int) : Bool :=
  if role = 100 ∨ role = 114 then decide (0 ≤ v ∧ v < f.regs)
  else if role = 68 ∨ role = 82 then decide (-1 ≤ v ∧ v < f.regs)
  else if role = 110 then decide (0 ≤ v ∧ v ≤ 64)
  else if role = 106 then decide (0 ≤ v ∧ v < len f.code ∧ ¬ (f.code.getD v.toNat default).op = 51)
  else if role = 103 then decide (0 ≤ v ∧ v < len p.globals)
  else if role = 108 then decide (0 ≤ v ∧ v < len p.layouts)
  else if role = 102 then decide (0 ≤ v ∧ v < len p.funcs ∧ 0 ≤ x.c ∧ x.c ≤ wrap64 (f.regs - (p.funcs.getD v.toNat default).params))
  else if role = 49 then decide (0 ≤ v ∧ v < len p.funcs ∧ (p.funcs.getD v.toNat default).params = 1)
  else if role = 97 then decide (0 ≤ v)
  else if role = 115 then decide (0 ≤ v ∧ v ≤ 8)
  else if role = 98 then decide (v = 0 ∨ v = 1)
  else if role = 99 then decide (-1 ≤ v ∧ v < f.regs ∧ (x.b = 0 ∨ 0 ≤ v))
  else if role = 45 then decide (v = 0)
  else true
/-- An instruction by itself. -/
def instrB (p : Pg) (f : Fc) (x : In) : Bool :=
  match roles x.op with
  | [r0, r1, r2] => decide (0 ≤ x.at') && operandB p f x r0 x.a && operandB p f x r1 x.b && operandB p f x r2 x.c &&
      (if x.op = 24 then decide (x.a + x.c < f.regs ∧ x.c < 64) else if x.op = 25 then decide (x.b < 63 ∧ 0 < f.regs) else decide (¬ x.op = 38 ∨ x.c + 1 < f.regs))
  | _ => false
/-- How many cases still follow, behind an instruction. -/
def after (left : Int) (x : In) : Int := if x.op = 50 then x.b else if 0 < left then left - 1 else left
def seqB (p : Pg) (f : Fc) : Int → List In → Bool
  | _, [] => true
  | left, x :: r => (decide (0 < left) == decide (x.op = 51)) && instrB p f x && seqB p f (after left x) r
def functionB (p : Pg) (f : Fc) : Bool :=
  decide (¬ f.name.data.toList = [] ∧ 0 ≤ f.params ∧ f.params ≤ f.regs ∧ f.regs ≤ 64 ∧ 0 < f.code.length ∧ f.code.length ≤ 1000) &&
    decide ((f.code.getLast?.getD default).op = 30 ∨ (f.code.getLast?.getD default).op = 16) && seqB p f 0 f.code
def layoutsB (l : List (List Int)) : Bool := l.all (fun r => r.all (fun k => decide (k = 0 ∨ k = 1)) && decide (r.length ≤ 64)) && decide (l.length ≤ 32)
def validB (p : Pg) : Bool :=
  decide (p.funcs.length ≤ 64 ∧ p.globals.length ≤ 64) && layoutsB p.layouts && decide (0 ≤ p.main ∧ p.main < len p.funcs ∧ (p.funcs.getD p.main.toNat default).params = 0) &&
    p.globals.all (fun g => decide (¬ g.name.data.toList = [] ∧ (g.kind = 0 ∨ g.kind = 1))) && decide ((p.globals.map (·.name)).Nodup) &&
    p.funcs.all (functionB p) && decide ((p.funcs.map (·.name)).Nodup)

/-! ### increasing lists -/
def ins : List Int → Int → List Int
  | [], n => [n]
  | a :: l, n => if a < n then a :: ins l n else if a = n then a :: l else n :: a :: l
theorem ins_mem (l : List Int) (n x : Int) : x ∈ ins l n ↔ x = n ∨ x ∈ l := by
  induction l with
  | nil => simp [ins]
  | cons a l ih =>
    unfold ins
    by_cases h : a < n
    · rw [if_pos h]; simp only [List.mem_cons, ih]; constructor <;> rintro (h | h | h) <;> simp [h]
    · rw [if_neg h]
      by_cases e : a = n
      · rw [if_pos e, e]; simp
      · rw [if_neg e]; simp
theorem ins_inc (l : List Int) (n : Int) (h : l.Pairwise (· < ·)) : (ins l n).Pairwise (· < ·) := by
  induction l with
  | nil => simp [ins]
  | cons a l ih =>
    rw [List.pairwise_cons] at h
    unfold ins
    by_cases c : a < n
    · rw [if_pos c, List.pairwise_cons]
      refine ⟨fun x hx => ?_, ih h.2⟩
      rcases (ins_mem _ _ _).1 hx with rfl | hx
      · exact c
      · exact h.1 x hx
    · rw [if_neg c]
      by_cases e : a = n
      · rw [if_pos e]; exact List.pairwise_cons.2 h
      · rw [if_neg e]
        refine List.pairwise_cons.2 ⟨fun x hx => ?_, List.pairwise_cons.2 h⟩
        rcases List.mem_cons.1 hx with rfl | hx
        · omega
        · have := h.1 x hx; omega
def insAll (l : List Int) (m : List Int) : List Int := m.foldl ins l
theorem insAll_mem (m : List Int) : ∀ (l : List Int) (x : Int), x ∈ insAll l m ↔ x ∈ l ∨ x ∈ m := by
  induction m with
  | nil => intro l x; simp [insAll]
  | cons a m ih =>
    intro l x
    have := ih (ins l a) x
    unfold insAll at this ⊢
    rw [List.foldl_cons, this, ins_mem, List.mem_cons]
    constructor
    · rintro ((h | h) | h) <;> simp [h]
    · rintro (h | h | h) <;> simp [h]
theorem insAll_inc (m : List Int) : ∀ l : List Int, l.Pairwise (· < ·) → (insAll l m).Pairwise (· < ·) := by
  induction m with
  | nil => intro l h; exact h
  | cons a m ih => intro l h; exact ih _ (ins_inc l a h)
def below (l : List Int) (n : Int) : Prop := l.Pairwise (· < ·) ∧ ∀ x ∈ l, 0 ≤ x ∧ x < n
theorem below_insAll {m : List Int} {n : Int} (h : ∀ x ∈ m, 0 ≤ x ∧ x < n) : below (insAll [] m) n :=
  ⟨insAll_inc m [] List.Pairwise.nil, fun x hx => by
    rcases (insAll_mem m [] x).1 hx with h' | h'
    · cases h'
    · exact h x h'⟩

/-! ### what is read and written -/
def rolesOf (x : In) : List (UInt8 × Int) := (roles x.op).zip [x.a, x.b, x.c]
def rd (y : UInt8 × Int) : List Int := if y.1 = 114 ∨ (y.1 = 82 ∧ 0 ≤ y.2) then [y.2] else []
def wr (y : UInt8 × Int) : List Int := if (y.1 = 100 ∨ y.1 = 68) ∧ 0 ≤ y.2 then [y.2] else []
def upFrom (a : Int) (n : Nat) : List Int := (List.range n).map (fun i : Nat => a + (i : Int))
def caseRd (x : In) : List Int := x.a :: (if x.b = 1 then [x.c] else [])
def more (p : Pg) (f : Fc) (pc : Nat) (x : In) : List Int :=
  if x.op = 26 ∨ x.op = 28 ∨ x.op = 31 then (if 0 ≤ x.b ∧ x.b < len p.funcs then upFrom x.c (p.funcs.getD x.b.toNat default).params.toNat else [])
  else if x.op = 24 then upFrom (x.a + 1) x.c.toNat
  else if x.op = 25 then [0]
  else if x.op = 38 then [x.c + 1]
  else if x.op = 50 then (((f.code.drop (pc + 1)).take x.b.toNat).map caseRd).flatten
  else []
def usesI (p : Pg) (f : Fc) (pc : Nat) (x : In) : List Int :=
  if roles x.op = [] ∨ x.op = 51 then [] else insAll [] (((rolesOf x).map rd).flatten ++ more p f pc x)
def defsI (x : In) : List Int :=
  if roles x.op = [] ∨ x.op = 51 then [] else insAll [] (((rolesOf x).map wr).flatten)
def nextI (pc : Nat) (x : In) : List Int :=
  if x.op = 30 ∨ x.op = 51 then []
  else if x.op = 16 then [x.c]
  else if x.op = 17 ∨ x.op = 45 then ins [(pc : Int) + 1] x.c
  else if x.op = 50 then [(pc : Int) + 1 + x.b]
  else [(pc : Int) + 1]
end Go.Proofs.YtekfhgldebhigaaDoor.C
