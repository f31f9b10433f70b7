/-
  Plain mathematics of trees: a forest is a first tree's head, its children and the trees behind it. No program text is reached here.
  Plain mathematics of permitted trees. No program text is reached here.
  Plain mathematics of printing: the text of a permitted tree. No program text is reached here.
  Plain mathematics of printing: how long the text of a tree is; what the children of a permitted tree are. No program text is reached here.
-/
import Derived.Below

set_option linter.all false
namespace Go.Proofs.YticbcnhbpbaocaaGreatDoor.T
set_option linter.unusedVariables false

/-- The head of a node: all its fields but the children. -/
structure Hd where
  kind : Int
  text : ByteArray
  num : Int
  pos : Int
  tk : Int
  tn : ByteArray
  ref : Int
  up : Int
deriving DecidableEq

/-- Trees in a row. -/
inductive Fo where
  | nil
  | cons (h : Hd) (kids rest : Fo)
deriving DecidableEq
namespace Fo
def len : Fo → Nat
  | nil => 0
  | cons _ _ r => r.len + 1
def cnt : Fo → Nat
  | nil => 0
  | cons _ k r => 1 + k.cnt + r.cnt
/-- The trees of two rows, one row behind the other. -/
def app : Fo → Fo → Fo
  | nil, b => b
  | cons h k r, b => cons h k (r.app b)
/-- Every tree of the row. -/
def All (P : Hd → Fo → Prop) : Fo → Prop
  | nil => True
  | cons h k r => P h k ∧ All P r
theorem allOf {P : Hd → Fo → Prop} (H : ∀ h k, All P k → P h k) (F : Fo) : All P F := by
  induction F with
  | nil => trivial
  | cons h k r ihk ihr => exact ⟨H h k ihk, ihr⟩
theorem ind {P : Hd → Fo → Prop} (H : ∀ h k, All P k → P h k) (h : Hd) (k : Fo) : P h k := H h k (allOf H k)
theorem app_nil (a : Fo) : a.app nil = a := by
  induction a with
  | nil => rfl
  | cons h k r _ ih => simp [app, ih]
theorem app_assoc (a b c : Fo) : (a.app b).app c = a.app (b.app c) := by
  induction a with
  | nil => rfl
  | cons h k r _ ih => simp [app, ih]
theorem len_app (a b : Fo) : (a.app b).len = a.len + b.len := by
  induction a with
  | nil => simp [app, len]
  | cons h k r _ ih => simp [app, len, ih]; omega
theorem cnt_app (a b : Fo) : (a.app b).cnt = a.cnt + b.cnt := by
  induction a with
  | nil => simp [app, cnt]
  | cons h k r _ ih => simp [app, cnt, ih]; omega
theorem len_le_cnt (a : Fo) : a.len ≤ a.cnt := by
  induction a with
  | nil => simp [len, cnt]
  | cons h k r _ ih => simp [len, cnt]; omega
theorem len_zero {a : Fo} (h : a.len = 0) : a = nil := by
  cases a with
  | nil => rfl
  | cons h k r => simp [len] at h
theorem len_nil : (nil : Fo).len = 0 := rfl
theorem len_cons (h : Hd) (k r : Fo) : (cons h k r).len = r.len + 1 := rfl
theorem cnt_nil : (nil : Fo).cnt = 0 := rfl
theorem cnt_cons (h : Hd) (k r : Fo) : (cons h k r).cnt = 1 + k.cnt + r.cnt := rfl

/-- The longest path in the row, in nodes. -/
def dep : Fo → Nat
  | nil => 0
  | cons _ k r => max (k.dep + 1) r.dep

/-- Num has a meaning. -/
def counts (h : Hd) : Bool := h.kind == 24 || h.kind == 25
/-- A head without annotations. -/
def bare (h : Hd) : Hd := ⟨h.kind, h.text, if counts h then h.num else 0, 0, 0, ⟨#[]⟩, 0, 0⟩
def strip : Fo → Fo
  | nil => nil
  | cons h k r => cons (bare h) k.strip r.strip
theorem bare_bare (h : Hd) : bare (bare h) = bare h := by
  have e : counts (bare h) = counts h := rfl
  show Hd.mk h.kind h.text (if counts (bare h) then (bare h).num else 0) 0 0 ⟨#[]⟩ 0 0 = _
  rw [e]
  unfold bare
  by_cases hc : counts h = true
  · simp [hc]
  · simp [hc]
theorem strip_strip (a : Fo) : a.strip.strip = a.strip := by
  induction a with
  | nil => rfl
  | cons h k r ihk ihr => simp [strip, ihk, ihr, bare_bare]
theorem strip_len (a : Fo) : a.strip.len = a.len := by
  induction a with
  | nil => rfl
  | cons h k r ihk ihr => simp [strip, len, ihr]
theorem strip_cnt (a : Fo) : a.strip.cnt = a.cnt := by
  induction a with
  | nil => rfl
  | cons h k r ihk ihr => simp [strip, cnt, ihr, ihk]
theorem strip_app (a b : Fo) : (a.app b).strip = a.strip.app b.strip := by
  induction a with
  | nil => rfl
  | cons h k r ihk ihr => simp [app, strip, ihr]

/-- Two trees are equal: what is left without annotations is the same. -/
def eqT (h : Hd) (k : Fo) (h' : Hd) (k' : Fo) : Bool := decide (bare h = bare h' ∧ k.strip = k'.strip)
def eqF (a b : Fo) : Bool := decide (a.strip = b.strip)
/-- Two trees are identical in all fields. -/
def sameT (h : Hd) (k : Fo) (h' : Hd) (k' : Fo) : Bool := decide (h = h' ∧ k = k')
def sameF (a b : Fo) : Bool := decide (a = b)
theorem eqF_len {a b : Fo} (h : a.len ≠ b.len) : eqF a b = false := by
  unfold eqF
  rw [decide_eq_false_iff_not]
  intro e
  rw [← strip_len a, ← strip_len b, e] at h
  exact h rfl
theorem sameF_len {a b : Fo} (h : a.len ≠ b.len) : sameF a b = false := by
  unfold sameF
  rw [decide_eq_false_iff_not]
  rintro rfl
  exact h rfl
theorem eqF_cons (h : Hd) (k r : Fo) (h' : Hd) (k' r' : Fo) : eqF (cons h k r) (cons h' k' r') = (eqT h k h' k' && eqF r r') := by
  unfold eqF eqT
  rw [Bool.eq_iff_iff]
  simp [strip, and_assoc]
theorem sameF_cons (h : Hd) (k r : Fo) (h' : Hd) (k' r' : Fo) : sameF (cons h k r) (cons h' k' r') = (sameT h k h' k' && sameF r r') := by
  unfold sameF sameT
  rw [Bool.eq_iff_iff]
  simp [and_assoc]
theorem eqF_nil : eqF nil nil = true := rfl
theorem sameF_nil : sameF nil nil = true := rfl

/-- The nodes in preorder, each with its children. -/
def pre : Fo → List (Hd × Fo)
  | nil => []
  | cons h k r => (h, k) :: (k.pre ++ r.pre)
def preT (h : Hd) (k : Fo) : List (Hd × Fo) := (h, k) :: k.pre
theorem pre_len (a : Fo) : a.pre.length = a.cnt := by
  induction a with
  | nil => rfl
  | cons h k r ihk ihr => simp [pre, cnt, ihk, ihr]; omega
theorem preT_len (h : Hd) (k : Fo) : (preT h k).length = 1 + k.cnt := by simp [preT, pre_len]; omega

/-- Every node of the row. -/
def AllH (P : Hd → Prop) : Fo → Prop
  | nil => True
  | cons h k r => P h ∧ AllH P k ∧ AllH P r

/-- A row out of a list of trees. -/
def of : List (Hd × Fo) → Fo
  | [] => nil
  | (h, k) :: l => cons h k (of l)
theorem of_app (a b : List (Hd × Fo)) : of (a ++ b) = (of a).app (of b) := by
  induction a with
  | nil => rfl
  | cons x a ih => obtain ⟨h, k⟩ := x; simp [of, app, ih]
theorem of_len (a : List (Hd × Fo)) : (of a).len = a.length := by
  induction a with
  | nil => rfl
  | cons x a ih => obtain ⟨h, k⟩ := x; simp [of, len, ih]
end Fo
end Go.Proofs.YticbcnhbpbaocaaGreatDoor.T

namespace Go.Proofs.YticbcnhbpbaocaaGreatDoor.T
set_option linter.unusedVariables false
open Fo

def bs (s : String) : List UInt8 := s.toUTF8.data.toList

def typeWords : List (List UInt8) := [[105, 110, 116], [98, 111, 111, 108], [91, 93, 105, 110, 116], [99, 104, 97, 110], [102, 117, 110, 99], [109, 117, 116, 101, 120], [114, 119, 109, 117, 116, 101, 120], [103, 114, 111, 117, 112], [111, 110, 99, 101], [97, 116, 111, 109, 105, 99]]
def binWords : List (List UInt8) := [[124, 124], [38, 38], [61, 61], [33, 61], [60], [60, 61], [62], [62, 61], [43], [45], [42], [47], [37]]
def isTypeText (t : ByteArray) : Bool := typeWords.contains t.data.toList
def isBinary (t : ByteArray) : Bool := binWords.contains t.data.toList

def namedK (k : Int) : Bool := k == 2 || k == 3 || k == 4 || k == 6 || k == 11 || k == 28 || k == 27 || k == 34 || k == 8
def typeK (k : Int) : Bool := k == 7 || k == 8
def stmtK (k : Int) : Bool := k == 6 || k == 10 || k == 11 || k == 12 || k == 13 || k == 14 || k == 15 || k == 16 || k == 17 || k == 21 || k == 18 || k == 19 || k == 20 || k == 22
def exprK (k : Int) : Bool := k == 28 || k == 29 || k == 30 || k == 31 || k == 32 || k == 33 || k == 35 || k == 36 || k == 37 || k == 27 || k == 34 || k == 24 || k == 25 || k == 26 || k == 38

/-- The kind of the last tree of the row; 0: none. -/
def lastK : Fo → Int
  | .nil => 0
  | .cons h _ .nil => h.kind
  | .cons _ _ (.cons h k r) => lastK (.cons h k r)
def commT (h : Hd) (k : Fo) : Bool := h.kind == 16 || ((h.kind == 13 || h.kind == 12 || h.kind == 11) && lastK k == 33)
def declT (h : Hd) (k : Fo) : Bool := h.kind == 2 || h.kind == 4 || (h.kind == 6 && lastK k == 9)

section
variable (nm : ByteArray → Bool)
/-- The text that the kind permits. -/
def textFits (h : Hd) : Bool :=
  if namedK h.kind then nm h.text
  else if h.kind = 31 then h.text.data.toList == [45] || h.text.data.toList == [33]
  else if h.kind = 32 then isBinary h.text
  else if h.kind = 7 then isTypeText h.text
  else h.text.data.toList == []
def numFits (h : Hd) : Bool :=
  if h.kind = 24 then decide (0 ≤ h.num) else if h.kind = 25 then h.num == 0 || h.num == 1 else true

/-- A set of trees. -/
abbrev Pl := Hd → Fo → Bool
def one (l : List Int) : Pl := fun h _ => l.contains h.kind
def opt (p : Pl) : Pl := fun h k => h.kind == 9 || p h k
def isT : Pl := fun h _ => typeK h.kind
def isE : Pl := fun h _ => exprK h.kind
def isS : Pl := fun h _ => stmtK h.kind
/-- The places for n children of a node of this kind. -/
def places (kind : Int) (n : Nat) : List Pl :=
  if kind = 1 then List.replicate n declT
  else if kind = 2 ∨ kind = 5 then List.replicate n (one [3])
  else if kind = 3 then [isT]
  else if kind = 4 then [one [5], opt isT, one [10]]
  else if kind = 6 then [isT, opt isE]
  else if kind = 10 then List.replicate n isS
  else if kind = 13 then [one [30, 33]]
  else if kind = 14 ∨ kind = 15 then [one [30]]
  else if kind = 18 then [isE, one [10], opt (one [10, 18])]
  else if kind = 19 then [opt isE, one [10]]
  else if kind = 20 then List.replicate (min n 1) isE
  else if kind = 22 then List.replicate n (one [23])
  else if kind = 23 then [opt commT, one [10]]
  else if kind = 11 ∨ kind = 17 ∨ kind = 21 ∨ kind = 28 ∨ kind = 31 ∨ kind = 33 ∨ kind = 35 ∨ kind = 36 ∨ kind = 37 then [isE]
  else if kind = 12 ∨ kind = 16 ∨ kind = 29 ∨ kind = 32 then [isE, isE]
  else if kind = 30 then List.replicate (max n 1) isE
  else if kind = 38 then [one [10]]
  else []
def fits : List Pl → Fo → Bool
  | [], .nil => true
  | p :: l, .cons h k r => p h k && fits l r
  | _, _ => false
def childrenFit (h : Hd) (k : Fo) : Bool := fits (places h.kind k.len) k
/-- All nodes are permitted, and no path has more than d nodes. -/
def permF : Fo → Nat → Bool
  | .nil, _ => true
  | .cons h k r, d => (d != 0 && textFits nm h && numFits h && childrenFit h k && permF k (d - 1)) && permF r d
def permT (h : Hd) (k : Fo) (d : Nat) : Bool := d != 0 && textFits nm h && numFits h && childrenFit h k && permF nm k (d - 1)
def validT (h : Hd) (k : Fo) : Bool := h.kind == 1 && permT nm h k 50
/-- Without a bound on the paths. -/
def okF : Fo → Bool
  | .nil => true
  | .cons h k r => (textFits nm h && numFits h && childrenFit h k && okF k) && okF r
def okT (h : Hd) (k : Fo) : Bool := textFits nm h && numFits h && childrenFit h k && okF nm k
theorem permF_cons (h : Hd) (k r : Fo) (d : Nat) : permF nm (.cons h k r) d = (permT nm h k d && permF nm r d) := rfl
theorem okF_cons (h : Hd) (k r : Fo) : okF nm (.cons h k r) = (okT nm h k && okF nm r) := rfl
theorem permF_dep (F : Fo) : ∀ d, permF nm F d = (okF nm F && decide (F.dep ≤ d)) := by
  induction F with
  | nil => intro d; simp [permF, okF, dep]
  | cons h k r ihk ihr =>
    intro d
    simp only [permF, okF, dep, ihk, ihr]
    rw [Bool.eq_iff_iff]
    cases d with
    | zero => simp
    | succ d =>
      simp [Nat.max_le]
      constructor
      · rintro ⟨⟨h1, h2, h3⟩, h4, h5⟩; exact ⟨⟨⟨h1, h2⟩, h4⟩, h3, h5⟩
      · rintro ⟨⟨⟨h1, h2⟩, h4⟩, h3, h5⟩; exact ⟨⟨h1, h2, h3⟩, h4, h5⟩
theorem permT_dep (h : Hd) (k : Fo) (d : Nat) : permT nm h k d = (okT nm h k && decide (k.dep + 1 ≤ d)) := by
  unfold permT okT
  rw [permF_dep]
  rw [Bool.eq_iff_iff]
  cases d with
  | zero => simp
  | succ d => simp; constructor <;> rintro ⟨a, b⟩ <;> simp_all
end
end Go.Proofs.YticbcnhbpbaocaaGreatDoor.T

namespace Go.Proofs.YticbcnhbpbaocaaGreatDoor.T
set_option linter.unusedVariables false
open Fo
abbrev Bs := List UInt8

/-- The digits of a number. -/
def digs (n : Nat) : Bs := if n < 10 then [UInt8.ofNat (48 + n)] else digs (n / 10) ++ [UInt8.ofNat (48 + n % 10)]
termination_by n
decreasing_by omega

/-- What is printed of a node: its head, its text as an expression, as a statement (or declaration), the lines of its children. -/
structure Rc where
  h : Hd
  ex : Bs
  st : Bs
  ls : Bs
def tabs (n : Nat) : Bs := List.replicate n 9
def joinC : List Bs → Bs
  | [] => []
  | [a] => a
  | a :: b :: l => a ++ [44, 32] ++ joinC (b :: l)
def typeS (h : Hd) : Bs :=
  if h.kind = 8 then [42] ++ h.text.data.toList
  else if h.text.data.toList = [99, 104, 97, 110] then [99, 104, 97, 110, 32, 105, 110, 116]
  else if h.text.data.toList = [102, 117, 110, 99] then [102, 117, 110, 99, 40, 41]
  else h.text.data.toList
def r0 : Rc := ⟨⟨0, ⟨#[]⟩, 0, 0, 0, ⟨#[]⟩, 0, 0⟩, [], [], []⟩
def nth (K : List Rc) (i : Nat) : Rc := K.getD i r0
def par (b : Bool) (s : Bs) : Bs := if b then [40] ++ s ++ [41] else s
/-- An operand of an operator; what a member, an index or arguments follow. -/
def opdS (r : Rc) : Bs := par (r.h.kind == 32) r.ex
def baseS (r : Rc) : Bs := par (r.h.kind == 32 || r.h.kind == 31 || r.h.kind == 33) r.ex
def blkS (n : Nat) (ls : Bs) : Bs := [123, 10] ++ ls ++ tabs n ++ [125]
def exS (n : Nat) (h : Hd) (K : List Rc) : Bs :=
  let t := h.text.data.toList
  if h.kind = 24 then digs h.num.toNat
  else if h.kind = 25 then (if h.num = 1 then [116, 114, 117, 101] else [102, 97, 108, 115, 101])
  else if h.kind = 26 then [110, 105, 108]
  else if h.kind = 27 then t
  else if h.kind = 34 then [110, 101, 119, 40] ++ t ++ [41]
  else if h.kind = 28 then baseS (nth K 0) ++ [46] ++ t
  else if h.kind = 29 then baseS (nth K 0) ++ [91] ++ (nth K 1).ex ++ [93]
  else if h.kind = 30 then baseS (nth K 0) ++ [40] ++ joinC ((K.drop 1).map (·.ex)) ++ [41]
  else if h.kind = 31 then t ++ opdS (nth K 0)
  else if h.kind = 33 then [60, 45] ++ opdS (nth K 0)
  else if h.kind = 32 then opdS (nth K 0) ++ [32] ++ t ++ [32] ++ opdS (nth K 1)
  else if h.kind = 35 then [109, 97, 107, 101, 40, 91, 93, 105, 110, 116, 44, 32] ++ (nth K 0).ex ++ [41]
  else if h.kind = 36 then [109, 97, 107, 101, 40, 99, 104, 97, 110, 32, 105, 110, 116, 44, 32] ++ (nth K 0).ex ++ [41]
  else if h.kind = 37 then [108, 101, 110, 40] ++ (nth K 0).ex ++ [41]
  else [102, 117, 110, 99, 40, 41, 32] ++ blkS n (nth K 0).ls
def varS (h : Hd) (K : List Rc) : Bs := [118, 97, 114, 32] ++ h.text.data.toList ++ [32] ++ typeS (nth K 0).h ++ (if (nth K 1).h.kind = 9 then [] else [32, 61, 32] ++ (nth K 1).ex)
def caseS (n : Nat) (K : List Rc) : Bs := (if (nth K 0).h.kind = 9 then [100, 101, 102, 97, 117, 108, 116] else [99, 97, 115, 101, 32] ++ (nth K 0).st) ++ [58, 10] ++ (nth K 1).ls
def stS (n : Nat) (h : Hd) (ls : Bs) (K : List Rc) : Bs :=
  let t := h.text.data.toList
  if h.kind = 2 then [116, 121, 112, 101, 32] ++ t ++ [32, 115, 116, 114, 117, 99, 116, 32] ++ blkS n ls
  else if h.kind = 3 then t ++ [32] ++ typeS (nth K 0).h
  else if h.kind = 4 then [102, 117, 110, 99, 32] ++ t ++ [40] ++ (nth K 0).st ++ [41, 32] ++ (if (nth K 1).h.kind = 9 then [] else typeS (nth K 1).h ++ [32]) ++ blkS n (nth K 2).ls
  else if h.kind = 5 then joinC (K.map (·.st))
  else if h.kind = 6 then varS h K
  else if h.kind = 10 then blkS n ls
  else if h.kind = 11 then t ++ [32, 58, 61, 32] ++ (nth K 0).ex
  else if h.kind = 12 then (nth K 0).ex ++ [32, 61, 32] ++ (nth K 1).ex
  else if h.kind = 13 then (nth K 0).ex
  else if h.kind = 14 then [103, 111, 32] ++ (nth K 0).ex
  else if h.kind = 15 then [100, 101, 102, 101, 114, 32] ++ (nth K 0).ex
  else if h.kind = 16 then (nth K 0).ex ++ [32, 60, 45, 32] ++ (nth K 1).ex
  else if h.kind = 17 then [99, 108, 111, 115, 101, 40] ++ (nth K 0).ex ++ [41]
  else if h.kind = 21 then [112, 114, 105, 110, 116, 40] ++ (nth K 0).ex ++ [41]
  else if h.kind = 18 then [105, 102, 32] ++ (nth K 0).ex ++ [32] ++ blkS n (nth K 1).ls ++ (if (nth K 2).h.kind = 9 then [] else [32, 101, 108, 115, 101, 32] ++ (nth K 2).st)
  else if h.kind = 20 then [114, 101, 116, 117, 114, 110] ++ (if K.length = 0 then [] else [32] ++ (nth K 0).ex)
  else if h.kind = 22 then [115, 101, 108, 101, 99, 116, 32, 123, 10] ++ (K.map fun r => tabs n ++ r.st).flatten ++ tabs n ++ [125]
  else if h.kind = 23 then caseS n K
  else if (nth K 0).h.kind = 9 then [102, 111, 114, 32] ++ blkS n (nth K 1).ls else [102, 111, 114, 32] ++ (nth K 0).ex ++ [32] ++ blkS n (nth K 1).ls
def lineS (n : Nat) (r : Rc) : Bs := tabs n ++ r.st ++ [10]
def linesS (n : Nat) (K : List Rc) : Bs := (K.map (lineS n)).flatten
def mkR (n : Nat) (h : Hd) (K K1 : List Rc) : Rc := ⟨h, exS n h K, stS n h (linesS (n + 1) K1) K, linesS (n + 1) K1⟩
/-- The records of a row of trees in a line with n tabs. -/
def rcF : Fo → Nat → List Rc
  | .nil, _ => []
  | .cons h k r, n => mkR n h (rcF k n) (rcF k (n + 1)) :: rcF r n
def rcT (n : Nat) (h : Hd) (k : Fo) : Rc := mkR n h (rcF k n) (rcF k (n + 1))
theorem rcF_cons (h : Hd) (k r : Fo) (n : Nat) : rcF (.cons h k r) n = rcT n h k :: rcF r n := rfl
theorem rcF_len (F : Fo) (n : Nat) : (rcF F n).length = F.len := by
  induction F with
  | nil => rfl
  | cons h k r _ ih => simp [rcF, len, ih]
theorem rcT_h (n : Nat) (h : Hd) (k : Fo) : (rcT n h k).h = h := rfl
theorem rcT_ex (n : Nat) (h : Hd) (k : Fo) : (rcT n h k).ex = exS n h (rcF k n) := rfl
theorem rcT_st (n : Nat) (h : Hd) (k : Fo) : (rcT n h k).st = stS n h (linesS (n + 1) (rcF k (n + 1))) (rcF k n) := rfl
theorem rcT_ls (n : Nat) (h : Hd) (k : Fo) : (rcT n h k).ls = linesS (n + 1) (rcF k (n + 1)) := rfl
/-- The text of a file. -/
def fileS (k : Fo) : Bs := ((rcF k 0).map fun r => r.st ++ [10]).flatten
def printT (nm : ByteArray → Bool) (h : Hd) (k : Fo) : Bs := if validT nm h k then fileS k else []
end Go.Proofs.YticbcnhbpbaocaaGreatDoor.T

namespace Go.Proofs.YticbcnhbpbaocaaGreatDoor.T
set_option linter.unusedVariables false
open Fo

theorem digs_len : ∀ (k n : Nat), 1 ≤ k → n < 10 ^ k → (digs n).length ≤ k := by
  intro k
  induction k with
  | zero => intro n h; omega
  | succ k ih =>
    intro n _ hn
    rw [digs]
    split
    · simp
    · rename_i h10
      have hk : 1 ≤ k := by
        rcases Nat.eq_zero_or_pos k with rfl | h
        · simp at hn; omega
        · exact h
      have := ih (n / 10) hk (by rw [Nat.pow_succ] at hn; omega)
      simp; omega

/-- A short text and a number of 64 bits. -/
def sh (h : Hd) : Prop := h.text.data.toList.length ≤ 20000 ∧ h.num < 9223372036854775808
def mx (r : Rc) : Nat := max r.ex.length (max r.st.length r.ls.length)
def sm : List Rc → Nat
  | [] => 0
  | r :: l => mx r + 100 + sm l
theorem ex_le (r : Rc) : r.ex.length ≤ mx r := by unfold mx; omega
theorem st_le (r : Rc) : r.st.length ≤ mx r := by unfold mx; omega
theorem ls_le (r : Rc) : r.ls.length ≤ mx r := by unfold mx; omega
theorem sm_nth (K : List Rc) : mx (nth K 0) + mx (nth K 1) + mx (nth K 2) ≤ sm K := by
  have h0 : mx r0 = 0 := rfl
  match K with
  | [] => simp [nth, sm, h0]
  | [a] => simp [nth, sm, h0]
  | [a, b] => simp [nth, sm, h0]; omega
  | a :: b :: c :: l => simp [nth, sm]; omega
theorem typeS_len (h : Hd) (hh : h.text.data.toList.length ≤ 20000) : (typeS h).length ≤ 20010 := by
  unfold typeS
  split
  · simp; have := hh; simp at this; omega
  · split
    · simp
    · split
      · simp
      · omega
theorem par_le (c : Bool) (s : Bs) : (par c s).length ≤ s.length + 2 := by
  unfold par; split <;> simp
theorem blkS_len (n : Nat) (ls : Bs) : (blkS n ls).length = ls.length + n + 3 := by
  simp [blkS, tabs]; omega
theorem tabs_len (n : Nat) : (tabs n).length = n := by simp [tabs]
theorem joinC_ex (K : List Rc) : (joinC (K.map (·.ex))).length ≤ sm K := by
  match K with
  | [] => simp [joinC, sm]
  | [a] => simp [joinC, sm]; have := ex_le a; omega
  | a :: b :: l =>
    have := joinC_ex (b :: l)
    have h1 := ex_le a
    simp [joinC, sm] at this ⊢
    omega
theorem joinC_st (K : List Rc) : (joinC (K.map (·.st))).length ≤ sm K := by
  match K with
  | [] => simp [joinC, sm]
  | [a] => simp [joinC, sm]; have := st_le a; omega
  | a :: b :: l =>
    have := joinC_st (b :: l)
    have h1 := st_le a
    simp [joinC, sm] at this ⊢
    omega
theorem linesS_len (n : Nat) (hn : n ≤ 80) (K : List Rc) : (linesS n K).length ≤ sm K := by
  induction K with
  | nil => simp [linesS, sm]
  | cons a l ih =>
    have h1 := st_le a
    simp [linesS, sm, lineS, tabs_len] at ih ⊢
    omega
theorem flat_len (n : Nat) (hn : n ≤ 80) (K : List Rc) : ((K.map fun r => tabs n ++ r.st).flatten).length ≤ sm K := by
  induction K with
  | nil => simp [sm]
  | cons a l ih =>
    have h1 := st_le a
    simp [sm, tabs_len] at ih ⊢
    omega
theorem ite_len {c : Prop} [Decidable c] {a b : Bs} {m : Nat} (h1 : a.length ≤ m) (h2 : b.length ≤ m) : (if c then a else b).length ≤ m := by
  split
  · exact h1
  · exact h2
theorem exS_len (n : Nat) (h : Hd) (K : List Rc) (hn : n ≤ 70) (hh : sh h) : (exS n h K).length ≤ 69000 + sm K := by
  obtain ⟨h1, h2⟩ := hh
  have a := sm_nth K
  have e0 := ex_le (nth K 0)
  have e1 := ex_le (nth K 1)
  have l0 := ls_le (nth K 0)
  have p0 := par_le ((nth K 0).h.kind == 32) (nth K 0).ex
  have p1 := par_le ((nth K 1).h.kind == 32) (nth K 1).ex
  have b0 := par_le ((nth K 0).h.kind == 32 || (nth K 0).h.kind == 31 || (nth K 0).h.kind == 33) (nth K 0).ex
  have d : (digs h.num.toNat).length ≤ 20 := digs_len 20 _ (by omega) (by have : (10 : Nat) ^ 20 = 100000000000000000000 := by decide
                                                                          omega)
  have j : (joinC ((K.drop 1).map (·.ex))).length + mx (nth K 0) ≤ sm K := by
    cases K with
    | nil => simp [joinC, sm, nth]; decide
    | cons x l => have := joinC_ex l; simp [sm, nth] at this ⊢; omega
  have k0 := blkS_len n (nth K 0).ls
  unfold exS opdS baseS
  simp only
  generalize h.text.data.toList = t at h1 ⊢
  repeat' (apply ite_len)
  all_goals ((try simp only [List.length_append, List.length_cons, List.length_nil]); (first | omega | (split <;> (try simp only [List.length_append, List.length_cons, List.length_nil]) <;> omega)))
theorem stS_len (n : Nat) (h : Hd) (ls : Bs) (K : List Rc) (m : Nat) (hn : n ≤ 70) (hh : sh h) (hs : ∀ i, (nth K i).h.text.data.toList.length ≤ 20000) (hK : sm K ≤ m) (hls : ls.length ≤ m) : (stS n h ls K).length ≤ 69000 + m := by
  obtain ⟨h1, h2⟩ := hh
  have a := sm_nth K
  have e0 := ex_le (nth K 0)
  have e1 := ex_le (nth K 1)
  have l0 := ls_le (nth K 0)
  have l1 := ls_le (nth K 1)
  have l2 := ls_le (nth K 2)
  have s0 := st_le (nth K 0)
  have s2 := st_le (nth K 2)
  have t0 := typeS_len _ (hs 0)
  have t1 := typeS_len _ (hs 1)
  have j := joinC_st K
  have f := flat_len n (by omega) K
  have k0 := blkS_len n ls
  have k1 := blkS_len n (nth K 1).ls
  have k2 := blkS_len n (nth K 2).ls
  have tb := tabs_len n
  unfold stS varS caseS
  simp only
  generalize h.text.data.toList = t at h1 ⊢
  repeat' (apply ite_len)
  all_goals ((try simp only [List.length_append, List.length_cons, List.length_nil]); (first | omega | (split <;> (try simp only [List.length_append, List.length_cons, List.length_nil]) <;> omega)))
theorem nth_head (k : Fo) (n : Nat) (hk : k.AllH sh) : ∀ i, (nth (rcF k n) i).h.text.data.toList.length ≤ 20000 := by
  induction k with
  | nil => intro i; simp [rcF, nth, r0]
  | cons h kk r _ ihr =>
    intro i
    cases i with
    | zero => exact hk.1.1
    | succ i => exact ihr hk.2.2 i
theorem rc_len (F : Fo) : ∀ n, n + F.dep ≤ 70 → F.AllH sh → sm (rcF F n) ≤ 70000 * F.cnt := by
  induction F with
  | nil => intro n _ _; simp [rcF, sm]
  | cons h k r ihk ihr =>
    intro n hn hF
    obtain ⟨hh, hk, hr⟩ := hF
    simp only [Fo.dep] at hn
    by_cases hk0 : k = .nil
    · subst hk0
      have i1 : sm (rcF .nil n) ≤ 0 := Nat.le_refl _
      have i3 := ihr n (by omega) hr
      have x := exS_len n h (rcF .nil n) (by omega) hh
      have y := stS_len n h (linesS (n + 1) (rcF .nil (n + 1))) (rcF .nil n) 0 (by omega) hh (nth_head .nil n trivial) i1 (Nat.le_refl _)
      have z : (linesS (n + 1) (rcF .nil (n + 1))).length = 0 := rfl
      simp only [rcF, sm, mx, mkR, Fo.cnt] at x y z i3 ⊢
      omega
    · have i1 := ihk n (by omega) hk
      have i2 := ihk (n + 1) (by omega) hk
      have i3 := ihr n (by omega) hr
      have hls := linesS_len (n + 1) (by omega) (rcF k (n + 1))
      have x := exS_len n h (rcF k n) (by omega) hh
      have y := stS_len n h (linesS (n + 1) (rcF k (n + 1))) (rcF k n) (70000 * k.cnt) (by omega) hh (nth_head k n hk) i1 (by omega)
      simp only [rcF, sm, mx, mkR, Fo.cnt]
      omega
theorem rcT_len (n : Nat) (h : Hd) (k : Fo) (hn : n + k.dep + 1 ≤ 70) (hh : sh h) (hk : k.AllH sh) : mx (rcT n h k) ≤ 70000 * (1 + k.cnt) := by
  have := rc_len (.cons h k .nil) n (by simp only [Fo.dep]; omega) ⟨hh, hk, trivial⟩
  simp only [rcF_cons, sm, Fo.cnt] at this
  omega
theorem fileS_len (k : Fo) (hn : k.dep ≤ 70) (hk : k.AllH sh) : (fileS k).length ≤ 70000 * k.cnt := by
  have h := rc_len k 0 (by omega) hk
  have : ∀ K : List Rc, ((K.map fun r => r.st ++ [10]).flatten).length ≤ sm K := by
    intro K
    induction K with
    | nil => simp [sm]
    | cons a l ih => have := st_le a; simp [sm] at ih ⊢; omega
  have := this (rcF k 0)
  unfold fileS
  omega

theorem fits_one {p : Pl} {k : Fo} (h : fits [p] k = true) : ∃ h0 k0, k = .cons h0 k0 .nil ∧ p h0 k0 = true := by
  match k, h with
  | .cons h0 k0 .nil, h => exact ⟨h0, k0, rfl, by simpa [fits] using h⟩
  | .nil, h => simp [fits] at h
  | .cons _ _ (.cons _ _ _), h => simp [fits] at h
theorem fits_two {p q : Pl} {k : Fo} (h : fits [p, q] k = true) : ∃ h0 k0 h1 k1, k = .cons h0 k0 (.cons h1 k1 .nil) ∧ p h0 k0 = true ∧ q h1 k1 = true := by
  match k, h with
  | .cons h0 k0 r, h =>
    simp only [fits, Bool.and_eq_true] at h
    obtain ⟨h1, k1, rfl, hq⟩ := fits_one h.2
    exact ⟨h0, k0, h1, k1, rfl, h.1, hq⟩
  | .nil, h => simp [fits] at h
theorem fits_three {p q s : Pl} {k : Fo} (h : fits [p, q, s] k = true) : ∃ h0 k0 h1 k1 h2 k2, k = .cons h0 k0 (.cons h1 k1 (.cons h2 k2 .nil)) ∧ p h0 k0 = true ∧ q h1 k1 = true ∧ s h2 k2 = true := by
  match k, h with
  | .cons h0 k0 r, h =>
    simp only [fits, Bool.and_eq_true] at h
    obtain ⟨h1, k1, h2, k2, rfl, hq, hs⟩ := fits_two h.2
    exact ⟨h0, k0, h1, k1, h2, k2, rfl, h.1, hq, hs⟩
  | .nil, h => simp [fits] at h
theorem fits_nil {k : Fo} (h : fits [] k = true) : k = .nil := by
  cases k with
  | nil => rfl
  | cons _ _ _ => simp [fits] at h
theorem fits_rep {p : Pl} : ∀ {k : Fo} {m : Nat}, fits (List.replicate m p) k = true → m = k.len ∧ k.All fun h k => p h k = true
  | .nil, 0, _ => ⟨rfl, trivial⟩
  | .nil, m + 1, h => by simp [List.replicate, fits] at h
  | .cons h0 k0 r, 0, h => by simp [List.replicate, fits] at h
  | .cons h0 k0 r, m + 1, h => by
    simp only [List.replicate, fits, Bool.and_eq_true] at h
    obtain ⟨e, hA⟩ := fits_rep h.2
    exact ⟨by simp only [Fo.len]; omega, h.1, hA⟩
theorem all_and {P Q : Hd → Fo → Prop} : ∀ {F : Fo}, F.All P → F.All Q → F.All fun h k => P h k ∧ Q h k
  | .nil, _, _ => trivial
  | .cons _ _ _, ⟨h1, h2⟩, ⟨k1, k2⟩ => ⟨⟨h1, k1⟩, all_and h2 k2⟩
theorem one_kind {l : List Int} {h : Hd} {k : Fo} (H : one l h k = true) : h.kind ∈ l := by
  unfold one at H; simpa using H
end Go.Proofs.YticbcnhbpbaocaaGreatDoor.T

