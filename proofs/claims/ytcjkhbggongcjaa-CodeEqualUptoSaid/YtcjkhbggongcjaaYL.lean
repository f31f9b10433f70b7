/-
  The law CodeEqual.
-/
import Derived.Test.YtcjkhbggongcjaaEH
import Derived.Test.YtcjkhbggongcjaaYD
import Derived.Test.YtcjkhbggongcjaaYF
import Derived.Test.YtcjkhbggongcjaaYZ
set_option linter.all false
namespace Go.Proofs.Ytcjkhbggongcjaa
open Go.RowKit C
theorem keep8 {U V W : World} {a0 o0 a1 o1 a2 o2 a3 o3 a4 o4 a5 o5 a6 o6 a7 o7 : Nat} {v0 v1 v2 v3 v4 v5 v6 v7 : Value} (h : V.cell? ⟨a0, o0, none⟩ = some v0 ∧ V.cell? ⟨a1, o1, none⟩ = some v1 ∧ V.cell? ⟨a2, o2, none⟩ = some v2 ∧ V.cell? ⟨a3, o3, none⟩ = some v3 ∧ V.cell? ⟨a4, o4, none⟩ = some v4 ∧ V.cell? ⟨a5, o5, none⟩ = some v5 ∧ V.cell? ⟨a6, o6, none⟩ = some v6 ∧ V.cell? ⟨a7, o7, none⟩ = some v7 ∧ Below U.heap.size U V) (hb : Below V.heap.size V W) : W.cell? ⟨a0, o0, none⟩ = some v0 ∧ W.cell? ⟨a1, o1, none⟩ = some v1 ∧ W.cell? ⟨a2, o2, none⟩ = some v2 ∧ W.cell? ⟨a3, o3, none⟩ = some v3 ∧ W.cell? ⟨a4, o4, none⟩ = some v4 ∧ W.cell? ⟨a5, o5, none⟩ = some v5 ∧ W.cell? ⟨a6, o6, none⟩ = some v6 ∧ W.cell? ⟨a7, o7, none⟩ = some v7 ∧ Below U.heap.size U W := by
  obtain ⟨y0, y1, y2, y3, y4, y5, y6, y7, b⟩ := h
  exact ⟨cell_bel y0 hb, cell_bel y1 hb, cell_bel y2 hb, cell_bel y3 hb, cell_bel y4 hb, cell_bel y5 hb, cell_bel y6 hb, cell_bel y7 hb, b.trans (hb.mono b.size)⟩
set_option maxRecDepth 100000 in
set_option maxHeartbeats 16000000 in
theorem law_CodeEqual (p : Pg) (A B D : Option Addr) (ca cb cd : Nat) (q : Pg) (A' B' D' : Option Addr) (ca' cb' cd' : Nat) (w : World) (hp : PgAt w p A B D ca cb cd) (hq : PgAt w q A' B' D' ca' cb' cd') (hz : Sz p) :
    Calls Try.prog 4 #[pv p A B D ca cb cd, pv q A' B' D' ca' cb' cd'] w fun e w' => e = .returned (.bool true) ∧ Below w.heap.size w w' := by
  have HP := Lib.hid hp
  have HT := Lib.hid (topb w (.cells #[.slice A p.funcs.length ca, .slice B p.globals.length cb, .slice D p.layouts.length cd, .int .i64 p.main] 26) (.cells #[.slice A' q.funcs.length ca', .slice B' q.globals.length cb', .slice D' q.layouts.length cd', .int .i64 q.main] 26))
  have HT2 := Lib.hid (below2 w (.cells #[.slice A p.funcs.length ca, .slice B p.globals.length cb, .slice D p.layouts.length cd, .int .i64 p.main] 26) (.cells #[.slice A' q.funcs.length ca', .slice B' q.globals.length cb', .slice D' q.layouts.length cd', .int .i64 q.main] 26))
  have HC : Hid (∀ V, Below w.heap.size w V → Calls Try.prog 13 #[pv p A B D ca cb cd, pv q A' B' D' ca' cb' cd'] V fun e w' => e = .returned (.bool (decide (p = q))) ∧ Below V.heap.size V w') := Lib.hid fun V hV => cequal_any p A B D ca cb cd q A' B' D' ca' cb' cd' V (hp.below hV) (hq.below hV)
  have HR : Hid (∀ V, Below w.heap.size w V → Calls Try.prog 14 #[pv p A B D ca cb cd, pv q A' B' D' ca' cb' cd'] V fun e w' => e = .returned (.bool (decide (p = q))) ∧ Below V.heap.size V w') := Lib.hid fun V hV => requal_any p A B D ca cb cd q A' B' D' ca' cb' cd' V (hp.below hV) (hq.below hV)
  have HY : Hid (∀ V, Below w.heap.size w V → Calls Try.prog 15 #[pv p A B D ca cb cd] V (CpRet p V)) := Lib.hid fun V hV => copy_any p A B D ca cb cd V (hp.below hV) hz
  have HE : Hid (∀ (V : World) (A1 B1 D1 : Option Addr) (ca1 cb1 cd1 : Nat), Below w.heap.size w V → PgAt V p A1 B1 D1 ca1 cb1 cd1 → Calls Try.prog 13 #[pv p A B D ca cb cd, pv p A1 B1 D1 ca1 cb1 cd1] V fun e w' => e = .returned (.bool true) ∧ Below V.heap.size V w') := Lib.hid fun V A1 B1 D1 ca1 cb1 cd1 hV h1 => (cequal_any p A B D ca cb cd p A1 B1 D1 ca1 cb1 cd1 V (hp.below hV) h1).mono (by rintro e w' ⟨he, hb⟩; exact ⟨by rw [he, decide_eq_true (rfl : p = p)], hb⟩)
  have HW : Hid (∀ V, Calls Try.prog 10 #[] V fun e w' => e = .returned (.bool true) ∧ Below V.heap.size V w') := Lib.hid awake_any
  obtain ⟨⟨x0, x1, x2, x3⟩, -⟩ := cells4 HT.out.1
  obtain ⟨⟨y0, y1, y2, y3⟩, -⟩ := cells4 HT.out.2
  have HS0 := Lib.hid (And.intro x0 (And.intro x1 (And.intro x2 (And.intro x3 (And.intro y0 (And.intro y1 (And.intro y2 (And.intro y3 (Below.drew HT2.out)))))))))
  clear hp hq hz x0 x1 x2 x3 y0 y1 y2 y3
  obtain ⟨b, hb⟩ : ∃ b, decide (p = q) = b := ⟨_, rfl⟩
  rw [hb] at HC HR
  clear hb
  cases b
  all_goals
    go_enter Try.func4, Try.ntmps4
    go_wp2_with fail
    go_region_held3 (fun w' => w'.cell? ⟨w.heap.size, 0, none⟩ = some (.slice A p.funcs.length ca) ∧ w'.cell? ⟨w.heap.size, 1, none⟩ = some (.slice B p.globals.length cb) ∧ w'.cell? ⟨w.heap.size, 2, none⟩ = some (.slice D p.layouts.length cd) ∧ w'.cell? ⟨w.heap.size, 3, none⟩ = some (.int .i64 p.main) ∧ w'.cell? ⟨w.heap.size + 1, 0, none⟩ = some ((.slice A' q.funcs.length ca')) ∧ w'.cell? ⟨w.heap.size + 1, 1, none⟩ = some ((.slice B' q.globals.length cb')) ∧ w'.cell? ⟨w.heap.size + 1, 2, none⟩ = some ((.slice D' q.layouts.length cd')) ∧ w'.cell? ⟨w.heap.size + 1, 3, none⟩ = some ((.int .i64 q.main)) ∧ Below w.heap.size w w')
      (first
        | exact HS0.out
        | assumption
        | (refine keep8 ?_ hbb; assumption))
      (first
        | (go_at_call 10; (with_reducible refine (HW.out _).mono ?_); rintro e w2 ⟨rfl, hbb⟩)
        | (go_at_call 13; (with_reducible refine (HC.out _ ?_).mono ?_); (go_split_ands; assumption); rintro e w2 ⟨rfl, hbb⟩)
        | (go_at_call 14; (with_reducible refine (HR.out _ ?_).mono ?_); (go_split_ands; assumption); rintro e w2 ⟨rfl, hbb⟩)
        | (go_at_call 15; (with_reducible refine (HY.out _ ?_).mono ?_); (go_split_ands; assumption); rintro e w2 ⟨A1, B1, D1, ca1, cb1, cd1, rfl, hq1, hbb⟩)
        | (go_at_call 13; (with_reducible refine (HE.out _ _ _ _ _ _ _ ?_ ?_).mono ?_); (go_split_ands; assumption); (exact hq1); rintro e w2 ⟨rfl, hbb⟩))
    all_goals
      have HZ : Hid (Below w.heap.size w w2) := Lib.hid (by go_split_ands; assumption)
      go_wp2
      go_ret
      exact ⟨rfl, HZ.out⟩
end Go.Proofs.Ytcjkhbggongcjaa
