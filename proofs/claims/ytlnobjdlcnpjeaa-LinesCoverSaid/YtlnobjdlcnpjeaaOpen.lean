/-
  How a table, a number and a text that came in are opened: what the walks are told of them.
-/
import Derived.Test.YtlnobjdlcnpjeaaL1
import Derived.ProofKit
import Derived.OpenShut
import Derived.ShutString
import Derived.ChangeOld
import Derived.Below
import Derived.Lib.SmallJoins
namespace Go.Proofs.Ytlnobjdlcnpjeaa
open Go.ChangeShapes Go.WideShapes Go.ChangeAt Go.RowKit Go.Joins M
open Go.ChangeMaps (open_string shut_string)

theorem own : ownKnob Try.prog.godebug = none := by kernel_rfl
theorem laidOut : laidOutB Try.prog = true := by kernel_rfl
theorem cells25 : Try.prog.cellsOf 25 = 2 := by kernel_rfl

theorem open_lines {H : Type} {enc : TypeId × Value → H} {W : World} {base : Nat} {v : Value} {d : DataW H} {p : List MemPlace} (hv : Value.okWide Try.prog W .any base 25 v) (h : DataW.Trod enc Try.prog W 0 (fun _ => true) true 25 v d p) :
    ∃ ao n cap zs size, v = .agg #[.slice ao n cap, .int .i64 size] ∧ (n : Int) ≤ 9223372036854775807 ∧ (n ≤ 1000 → Row W ao n zs) := by
  obtain ⟨c0, c1, y0, y1, m, rfl, _, _, hy0, hy1⟩ := open_agg2 Try.underlying25 (by kernel_rfl) cells25 hv h
  obtain ⟨size, e1, _, _⟩ := DataW.trod_int Try.underlying3 hy1
  simp at e1
  subst e1
  rcases open_ints Try.underlying23 Try.underlying3 (by kernel_rfl) hy0 with ⟨hcs, _⟩ | ⟨x, l, c, zs, hcs, _, hl, hm, hz, _, hcell, _⟩
  · simp at hcs
    subst hcs
    exact ⟨none, 0, 0, [], size, rfl, by omega, fun _ => ⟨rfl, by omega, .inl rfl⟩⟩
  · simp at hcs hz
    subst hcs
    refine ⟨some x, l, c, zs.take l, size, rfl, by unfold maxLen at hm; omega, fun hn => ⟨by simp; omega, by omega, ?_⟩⟩
    by_cases hl0 : l = 0
    · exact .inl hl0
    · have hc := hcell 0 (by omega)
      obtain ⟨b, off, spot⟩ := x
      have hspot : spot = none := by simpa [Addr.add] using World.cell?_spot hc
      subst hspot
      have hadd : ∀ i, (⟨b, off, none⟩ : Addr).add i = ⟨b, off + i, none⟩ := fun i => by unfold Addr.add; split <;> simp_all
      refine .inr ⟨b, off, rfl, ?_, fun i hi => ?_⟩
      · have := World.block_lt_of_cell? W _ hc
        simpa [hadd] using this
      · rw [← hadd, hcell i (by omega)]
        simp [at0, List.getD, hi]

end Go.Proofs.Ytlnobjdlcnpjeaa
