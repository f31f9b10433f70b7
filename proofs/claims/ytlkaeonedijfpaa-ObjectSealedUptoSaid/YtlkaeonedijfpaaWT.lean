/-
  The walk of the specification's With.
-/
import Derived.Test.YtlkaeonedijfpaaDA
import Derived.Deep.RegionLaw
set_option linter.all false
namespace Go.Proofs.Ytlkaeonedijfpaa
open Go.RowKit C
/-- An append of nothing, as one step of a region that draws. -/
theorem step_append_same {P : Program} (w : World) {ops : Array Oper} {o : Oper} {a : Act} {K : Act → World → Prop} {Q : Exit → Act → World → Prop} {E : Prop} (hgd : o.guard = none) (s x : Operand) (t : TypeId)
    (ho : o.op = .call { callee := .builtin .append, args := #[s, x], argTypes := #[t, t] })
    (base : Nat) (e : TypeId) (i : TypeInfo) (size : Nat) (ht : P.underlying t = some (.slice e)) (hi : P.info? e = some i) (hsize : i.size = size) (v : Value) (n : Nat) (xs : List Value) (hs : a.eval s = v) (hown : w.ownsRow base e size v n xs)
    (A : Option Addr) (m c : Nat) (hm : m = 0) (hx : a.eval x = .slice A m c)
    (h : K (a.put o.dst v) w) : if Region.wanted o (yielded ops a.tmps) = true then Oper.wp P o a w K Q else E := by
  have hw : Region.wanted o (yielded ops a.tmps) = true := by simp [Region.wanted, hgd]
  rw [if_pos hw]
  subst hm
  have hrun : (Builtin.append_ #[t, t] o.type #[v, .slice A 0 c]).run P w = .ok v w := by
    subst hsize
    rcases hown.2 with ⟨rfl, rfl⟩ | ⟨g, cap, cur, rfl, _, _, hnc, _⟩
    · cases A <;> simp [Builtin.append_, run_underlying ht, sizeOf, typeInfo, hi, Builtin.lenOf, Builtin.firstCells, loadCells, loadCellsFrom]
    · cases A <;> simp [Builtin.append_, run_underlying ht, sizeOf, typeInfo, hi, Builtin.lenOf, Builtin.firstCells, hnc, storeCells, loadCells, loadCellsFrom]
  unfold Oper.wp execOp
  simp only [ho, resolve, invoke, builtin, Sem.run_bind, Sem.run_pure, Result.andThen_ok, List.map_toArray, List.map_cons, List.map_nil, hs, hx, hrun]
  exact h
theorem own_e {W : World} {B base : Nat} {t : TypeId} {size : Nat} (h : W.heap[B]? = some (.cells #[] t)) (hB : base ≤ B) : W.ownsRow base t size (.slice (some ⟨B, 0, none⟩) 0 0) 0 [] :=
  ⟨by simp, .inr ⟨B, 0, #[], rfl, hB, h, Nat.le_refl _, Nat.zero_le _, by simp, by simp⟩⟩
theorem heap2a (w : World) (o1 o2 : Obj) : ((w.alloc o1).alloc o2).heap[w.heap.size]? = some o1 := by
  have b := Below.refl (w.alloc o1).heap.size (w.alloc o1) |>.alloc (Nat.le_refl _) o2
  exact (b.block _ (by simp)).trans (heap_alloc_new w o1)
theorem addr_add (g o t : Nat) : (⟨g, o, none⟩ : Addr).add t = ⟨g, o + t, none⟩ := by unfold Addr.add; split <;> simp_all
theorem row_take {g o : Nat} {l : List Int} {w W : World} (h : ∀ i (h : i < l.length), IntAt w l[i] g (o + i * 1)) (hb : Below w.heap.size w W) (j : Nat) : ∀ t u, ((l.take j).map (Value.int .i64))[t]? = some u → W.cell? ((⟨g, o, none⟩ : Addr).add t) = some u := by
  intro t u hu
  have ht : t < l.length ∧ t < j := by
    have := (List.getElem?_eq_some_iff.1 hu).1
    simp at this; omega
  have hx := ((h t ht.1).below hb).c0
  rw [Nat.mul_one] at hx
  have : u = .int .i64 l[t] := by
    rw [List.getElem?_map, List.getElem?_take, if_pos ht.2, List.getElem?_eq_getElem ht.1] at hu
    simpa using hu.symm
  rw [this, addr_add]; exact hx
theorem row_drop {g o : Nat} {l : List Int} {w W : World} (h : ∀ i (h : i < l.length), IntAt w l[i] g (o + i * 1)) (hb : Below w.heap.size w W) (j : Nat) : ∀ t u, ((l.drop j).map (Value.int .i64))[t]? = some u → W.cell? ((⟨g, o + j, none⟩ : Addr).add t) = some u := by
  intro t u hu
  have ht : j + t < l.length := by
    have := (List.getElem?_eq_some_iff.1 hu).1
    simp at this; omega
  have hx := ((h (j + t) ht).below hb).c0
  rw [Nat.mul_one] at hx
  have : u = .int .i64 l[j + t] := by
    rw [List.getElem?_map, List.getElem?_drop, List.getElem?_eq_getElem ht] at hu
    simpa using hu.symm
  rw [this, addr_add, Nat.add_assoc]; exact hx
theorem ints_one (zs : List Int) : ∀ u ∈ zs.map (Value.int .i64), u.oneCell' = true := by
  intro u hu
  obtain ⟨z, _, rfl⟩ := List.mem_map.1 hu
  rfl
theorem news_one {W : World} {B : Nat} {n : Int} (h : W.heap[B]? = some (.cells #[.int .i64 n] 3)) : ∀ t u, ([Value.int .i64 n])[t]? = some u → W.cell? ((⟨B, 0, none⟩ : Addr).add t) = some u := by
  intro t u hu
  have ht : t = 0 := by have := (List.getElem?_eq_some_iff.1 hu).1; simpa using this
  subst ht
  simp at hu
  subst hu
  simp [Addr.add, World.cell?, h]
end Go.Proofs.Ytlkaeonedijfpaa
