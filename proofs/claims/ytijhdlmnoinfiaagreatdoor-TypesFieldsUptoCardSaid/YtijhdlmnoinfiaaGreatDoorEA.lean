/-
  Plain mathematics of types: what is valid, a reference, a value; what can be assigned, compared; texts. No program text is reached here.
-/
import Derived.Test.YtijhdlmnoinfiaaGreatDoorMA
set_option linter.all false
namespace Go.Proofs.YtijhdlmnoinfiaaGreatDoor.Ty
open M

/-- A name, as layer 2 has it. -/
def nam (s : ByteArray) : Bool := nmB s.data.toList
def emp (s : ByteArray) : Bool := decide (s.toList = [])
/-- A type is valid. -/
def vB (k : Int) (s : ByteArray) : Bool := if k = 4 then nam s else (emp s && decide (0 ≤ k) && decide (k ≤ 12))
/-- A reference type. -/
def rB (k : Int) (s : ByteArray) : Bool := vB k s && decide (4 ≤ k) && decide (k ≤ 7)
/-- It is this kind, without a name. -/
def isK (n : Int) (k : Int) (s : ByteArray) : Bool := decide (k = n) && emp s
/-- A value type. -/
def valB (k : Int) (s : ByteArray) : Bool := isK 1 k s || isK 2 k s || rB k s
/-- Two types are the same. -/
def sm (k : Int) (s : ByteArray) (k' : Int) (s' : ByteArray) : Bool := decide (k = k') && decide (s.toList = s'.toList)
def asB (k : Int) (s : ByteArray) (k' : Int) (s' : ByteArray) : Bool := valB k s && (sm k s k' s' || (isK 3 k' s' && rB k s))
def cmB (k : Int) (s : ByteArray) (k' : Int) (s' : ByteArray) : Bool :=
  if isK 3 k s || isK 3 k' s' then rB k s || rB k' s' else sm k s k' s' && valB k s && !decide (k = 5) && !decide (k = 7)
/-- Which operators: arithmetic, order, equality, logic. -/
def opc (op : ByteArray) : Nat :=
  if op.toList = [43] then 1 else if op.toList = [45] then 1 else if op.toList = [42] then 1 else if op.toList = [47] then 1 else if op.toList = [37] then 1
  else if op.toList = [60] then 2 else if op.toList = [60, 61] then 2 else if op.toList = [62] then 2 else if op.toList = [62, 61] then 2
  else if op.toList = [61, 61] then 3 else if op.toList = [33, 61] then 3 else if op.toList = [38, 38] then 4 else if op.toList = [124, 124] then 4 else 0
/-- The kind of a binary operation's type, 0 if there is none. -/
def binC (c : Nat) (k : Int) (s : ByteArray) (k' : Int) (s' : ByteArray) : Int :=
  if c = 1 then (if isK 1 k s && isK 1 k' s' then 1 else 0) else if c = 2 then (if isK 1 k s && isK 1 k' s' then 2 else 0)
  else if c = 3 then (if cmB k s k' s' then 2 else 0) else if c = 4 then (if isK 2 k s && isK 2 k' s' then 2 else 0) else 0
def binK (op : ByteArray) (k : Int) (s : ByteArray) (k' : Int) (s' : ByteArray) : Int := binC (opc op) k s k' s'
def celB (k : Int) (s : ByteArray) : Int := if rB k s then 1 else 0
/-- The text of a type. -/
def txt (k : Int) (s : ByteArray) : List UInt8 :=
  if vB k s then
    if k = 1 then [105, 110, 116] else if k = 2 then [98, 111, 111, 108] else if k = 3 then [110, 105, 108]
    else if k = 4 then 42 :: s.data.toList else if k = 5 then [91, 93, 105, 110, 116] else if k = 6 then [99, 104, 97, 110, 32, 105, 110, 116]
    else if k = 7 then [102, 117, 110, 99, 40, 41] else if k = 8 then [109, 117, 116, 101, 120] else if k = 9 then [114, 119, 109, 117, 116, 101, 120]
    else if k = 10 then [103, 114, 111, 117, 112] else if k = 11 then [111, 110, 99, 101] else if k = 12 then [97, 116, 111, 109, 105, 99] else []
  else []
def txtB (k : Int) (s : ByteArray) : ByteArray := ⟨(txt k s).toArray⟩
end Go.Proofs.YtijhdlmnoinfiaaGreatDoor.Ty
