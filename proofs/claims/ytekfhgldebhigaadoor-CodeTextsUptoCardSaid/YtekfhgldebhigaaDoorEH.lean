/-
  The walk of the law's example (awake).
-/
import Derived.Test.YtekfhgldebhigaaDoorEG
import Derived.Test.YtekfhgldebhigaaDoorEA
set_option linter.all false
namespace Go.Proofs.YtekfhgldebhigaaDoor
open Go.RowKit C
def fx : Fc := ⟨⟨#[109, 97, 105, 110]⟩, 0, 4, [⟨48, 3, 1, -1, 0⟩, ⟨16, 0, 0, 0, 0⟩]⟩
def px : Pg := ⟨[fx], [], [], 0⟩
def p0 : Pg := ⟨[], [], [], 0⟩
theorem px_valid : validB px = true := by decide
theorem p0_valid : validB p0 = false := by decide
theorem px_uses : usesF px 0 0 = [1] := by decide
theorem px_defs : defsF px 0 0 = [3] := by decide
theorem fx_next : nextF fx 1 = [0] := by decide
abbrev o1 : Obj := .cells #[.int .i64 48, .int .i64 3, .int .i64 1, .int .i64 (-1), .int .i64 0, .int .i64 16, .int .i64 0, .int .i64 0, .int .i64 0, .int .i64 0] 34
abbrev o2 (n : Nat) : Obj := .cells #[.string ⟨#[109, 97, 105, 110]⟩, .int .i64 0, .int .i64 4, .slice (some ⟨n, 0, none⟩) 2 2] 37
abbrev o4 (n : Nat) : Obj := .cells #[.slice (some ⟨n + 1 + 1, 0, none⟩) 1 1, .slice none 0 0, .slice none 0 0, .int .i64 0] 26
/-- The example in memory. -/
structure Ex (n : Nat) (V : World) : Prop where
  pg : PgAt V px (some ⟨n + 1 + 1, 0, none⟩) none none 1 0 0
  fo : FvOk V fx (some ⟨n, 0, none⟩) 2
  b1 : V.heap[n + 1]? = some (o2 n)
  b3 : V.heap[n + 3]? = some (o4 n)
theorem Ex.keep {n : Nat} {V W : World} (h : Ex n V) (hb : Below V.heap.size V W) : Ex n W :=
  ⟨h.pg.below hb, h.fo.below hb, (hb.block _ (Array.getElem?_eq_some_iff.1 h.b1).1).trans h.b1, (hb.block _ (Array.getElem?_eq_some_iff.1 h.b3).1).trans h.b3⟩
theorem i64s {v : Int} (h : -100 ≤ v ∧ v ≤ 100) : i64 v := by unfold i64; omega
theorem Ex.new (w : World) : Ex w.heap.size ((((w.alloc o1).alloc (o2 w.heap.size)).alloc (o2 w.heap.size)).alloc (o4 w.heap.size)) := by
  obtain ⟨h2, h4, h1, h3⟩ := heap4 w o1 (o2 w.heap.size) (o2 w.heap.size) (o4 w.heap.size)
  have hs : ((((w.alloc o1).alloc (o2 w.heap.size)).alloc (o2 w.heap.size)).alloc (o4 w.heap.size)).heap.size = w.heap.size + 4 := by simp
  generalize ((((w.alloc o1).alloc (o2 w.heap.size)).alloc (o2 w.heap.size)).alloc (o4 w.heap.size)) = W at h1 h2 h3 h4 hs
  have hrow : Row 5 (InAt W) (some ⟨w.heap.size, 0, none⟩) fx.code := .inr ⟨w.heap.size, 0, rfl, fun i hi => by
    match i, hi with
    | 0, _ => exact ⟨by omega, by simp [World.cell?, h1]; rfl, by simp [World.cell?, h1]; rfl, by simp [World.cell?, h1]; rfl, by simp [World.cell?, h1]; rfl, by simp [World.cell?, h1]; rfl, i64s (by simp [fx]), i64s (by simp [fx]), i64s (by simp [fx]), i64s (by simp [fx]), i64s (by simp [fx])⟩
    | 1, _ => exact ⟨by omega, by simp [World.cell?, h1]; rfl, by simp [World.cell?, h1]; rfl, by simp [World.cell?, h1]; rfl, by simp [World.cell?, h1]; rfl, by simp [World.cell?, h1]; rfl, i64s (by simp [fx]), i64s (by simp [fx]), i64s (by simp [fx]), i64s (by simp [fx]), i64s (by simp [fx])⟩
    | n + 2, h => exact absurd h (by simp [fx])⟩
  refine ⟨⟨.inr ⟨w.heap.size + 1 + 1, 0, rfl, fun i hi => ?_⟩, .inl rfl, .inl rfl, i64s (by decide), ⟨Nat.le_refl _, by decide⟩, ⟨Nat.le_refl _, by decide⟩, ⟨Nat.le_refl _, by decide⟩⟩, ⟨hrow, ⟨Nat.le_refl _, by decide⟩, i64s (by decide), i64s (by decide)⟩, h2, h4⟩
  have hi0 : i = 0 := by simp [px] at hi; exact hi
  subst hi0
  exact ⟨by omega, by simp [World.cell?, h3]; rfl, by simp [World.cell?, h3]; rfl, by simp [World.cell?, h3]; rfl, ⟨some ⟨w.heap.size, 0, none⟩, 2, by simp [World.cell?, h3]; rfl, Nat.le_refl _, by simp [px, fx, maxLen], hrow⟩, by simp [px, fx, maxLen, ByteArray.size], i64s (by simp [px, fx]), i64s (by simp [px, fx])⟩
/-- Two lists of the call's own or built, compared. -/
theorem ints_own {base : Nat} {w : World} {v : Value} {a : Int} (h : Owns base w v [a]) (hi : i64 a) :
    Calls Tryd.prog 12 #[v, .slice (some ⟨w.heap.size, 0, none⟩) 1 1] (w.alloc (.cells #[.int .i64 a] 3)) fun e w' => e = .returned (.bool true) ∧ Below w.heap.size w w' := by
  obtain ⟨A, c, rfl, hc, hr, _⟩ := own_ints h (by simpa using hi)
  have hb : Below w.heap.size w (w.alloc (.cells #[.int .i64 a] 3)) := below1 _ _
  have hnew := heap_alloc_new w (.cells #[.int .i64 a] 3)
  have h2 : Row 1 (IntAt (w.alloc (.cells #[.int .i64 a] 3))) (some ⟨w.heap.size, 0, none⟩) [a] := .inr ⟨w.heap.size, 0, rfl, fun i hi' => by
    have : i = 0 := by simpa using hi'
    subst this
    exact ⟨by simp, by rw [cell_of_row _ _ _ _ _ _ hnew]; rfl, hi⟩⟩
  have := ints_any A (some ⟨w.heap.size, 0, none⟩) c 1 [a] [a] (w.alloc (.cells #[.int .i64 a] 3)) (by unfold maxLen; simp) (by unfold maxLen; simp) (hr.imp fun x g o q => q.below hb) h2
  rw [decide_eq_true rfl] at this
  refine Calls.mono this ?_
  rintro e w' ⟨rfl, hb2⟩
  exact ⟨rfl, hb.trans (hb2.mono (by simp))⟩
set_option maxRecDepth 100000 in
set_option maxHeartbeats 8000000 in
theorem awake_any (w : World) : Calls Tryd.prog 5 #[] w fun e w' => e = .returned (.bool true) ∧ Below w.heap.size w w' := by
  have hx0 := Lib.hid (Ex.new w)
  have hB0 := Lib.hid (below4 w o1 (o2 w.heap.size) (o2 w.heap.size) (o4 w.heap.size))
  have HV : Hid (∀ V, Ex w.heap.size V → Calls Tryd.prog 11 #[.agg #[.slice (some ⟨w.heap.size + 1 + 1, 0, none⟩) 1 1, .slice none 0 0, .slice none 0 0, .int .i64 0]] V fun e w' => e = .returned (.bool true) ∧ Below V.heap.size V w') := Lib.hid fun V hV => by
    have := valid_any px (some ⟨w.heap.size + 1 + 1, 0, none⟩) none none 1 0 0 V hV.pg; rw [px_valid] at this; exact this
  have HV0 : Hid (∀ V, Calls Tryd.prog 11 #[.agg #[.slice none 0 0, .slice none 0 0, .slice none 0 0, .int .i64 0]] V fun e w' => e = .returned (.bool false) ∧ Below V.heap.size V w') := Lib.hid fun V => by
    have := valid_any p0 none none none 0 0 0 V ⟨.inl rfl, .inl rfl, .inl rfl, i64s (by decide), ⟨Nat.le_refl _, by decide⟩, ⟨Nat.le_refl _, by decide⟩, ⟨Nat.le_refl _, by decide⟩⟩; rw [p0_valid] at this; exact this
  have HU : Hid (∀ V, Ex w.heap.size V → Calls Tryd.prog 13 #[.agg #[.slice (some ⟨w.heap.size + 1 + 1, 0, none⟩) 1 1, .slice none 0 0, .slice none 0 0, .int .i64 0], .int .i64 0, .int .i64 0] V (RetOwn [1] V)) := Lib.hid fun V hV => by
    have := cuses_any px (some ⟨w.heap.size + 1 + 1, 0, none⟩) none none 1 0 0 0 0 V hV.pg px_valid (i64s (by decide)) (i64s (by decide)); rw [px_uses] at this; exact this
  have HD : Hid (∀ V, Ex w.heap.size V → Calls Tryd.prog 14 #[.agg #[.slice (some ⟨w.heap.size + 1 + 1, 0, none⟩) 1 1, .slice none 0 0, .slice none 0 0, .int .i64 0], .int .i64 0, .int .i64 0] V (RetOwn [3] V)) := Lib.hid fun V hV => by
    have := cdefs_any px (some ⟨w.heap.size + 1 + 1, 0, none⟩) none none 1 0 0 0 0 V hV.pg px_valid (i64s (by decide)) (i64s (by decide)); rw [px_defs] at this; exact this
  have HX : Hid (∀ V, Ex w.heap.size V → Calls Tryd.prog 15 #[.agg #[.string ⟨#[109, 97, 105, 110]⟩, .int .i64 0, .int .i64 4, .slice (some ⟨w.heap.size, 0, none⟩) 2 2], .int .i64 1] V (RetOwn [0] V)) := Lib.hid fun V hV => by
    have := cnext_any fx (some ⟨w.heap.size, 0, none⟩) 2 1 V hV.fo (by decide) (by decide) (i64s (by decide)); rw [fx_next] at this; exact this
  have HS : Hid (∀ V, Calls Tryd.prog 16 #[.int .i64 48] V fun e w' => e = .returned (.bool true) ∧ V = w') := Lib.hid fun V => cvisible_any 48 V
  have HE : Hid (∀ V, Ex w.heap.size V → Calls Tryd.prog 17 #[.agg #[.slice (some ⟨w.heap.size + 1 + 1, 0, none⟩) 1 1, .slice none 0 0, .slice none 0 0, .int .i64 0], .agg #[.slice (some ⟨w.heap.size + 1 + 1, 0, none⟩) 1 1, .slice none 0 0, .slice none 0 0, .int .i64 0]] V fun e w' => e = .returned (.bool true) ∧ Below V.heap.size V w') := Lib.hid fun V hV => by
    have := cequal_any px (some ⟨w.heap.size + 1 + 1, 0, none⟩) none none 1 0 0 px (some ⟨w.heap.size + 1 + 1, 0, none⟩) none none 1 0 0 V hV.pg hV.pg; rw [decide_eq_true rfl] at this; exact this
  go_enter Tryd.func5, Tryd.ntmps5
  go_wp2_with fail
  refine (HV.out _ hx0.out).mono ?_
  rintro e w1 ⟨rfl, hw1⟩
  have hx1 := Lib.hid (hx0.out.keep hw1)
  have hB1 := Lib.hid (hB0.out.trans (hw1.mono hB0.out.size))
  clear hw1
  have k1b1 := hx1.out.b1
  have k1b3 := hx1.out.b3
  have y0 : w1.cell? ⟨w.heap.size + 3, 0, none⟩ = some (.slice (some ⟨w.heap.size + 1 + 1, 0, none⟩) 1 1) := by simp [World.cell?, k1b3]
  have y1 : w1.cell? ⟨w.heap.size + 3, 1, none⟩ = some (.slice none 0 0) := by simp [World.cell?, k1b3]
  have y2 : w1.cell? ⟨w.heap.size + 3, 2, none⟩ = some (.slice none 0 0) := by simp [World.cell?, k1b3]
  have y3 : w1.cell? ⟨w.heap.size + 3, 3, none⟩ = some (.int .i64 0) := by simp [World.cell?, k1b3]
  have z0 : w1.cell? ⟨w.heap.size + 1, 0, none⟩ = some (.string ⟨#[109, 97, 105, 110]⟩) := by simp [World.cell?, k1b1]
  have z1 : w1.cell? ⟨w.heap.size + 1, 1, none⟩ = some (.int .i64 0) := by simp [World.cell?, k1b1]
  have z2 : w1.cell? ⟨w.heap.size + 1, 2, none⟩ = some (.int .i64 4) := by simp [World.cell?, k1b1]
  have z3 : w1.cell? ⟨w.heap.size + 1, 3, none⟩ = some (.slice (some ⟨w.heap.size, 0, none⟩) 2 2) := by simp [World.cell?, k1b1]
  clear k1b1 k1b3
  go_wp2_with fail
  refine (HV0.out _).mono ?_
  rintro e w2 ⟨rfl, hw2⟩
  have hx2 := Lib.hid (hx1.out.keep hw2)
  have hB2 := Lib.hid (hB1.out.trans (hw2.mono hB1.out.size))
  clear hw2
  clear y0 y1 y2 y3 z0 z1 z2 z3
  have k2b1 := hx2.out.b1
  have k2b3 := hx2.out.b3
  have y0 : w2.cell? ⟨w.heap.size + 3, 0, none⟩ = some (.slice (some ⟨w.heap.size + 1 + 1, 0, none⟩) 1 1) := by simp [World.cell?, k2b3]
  have y1 : w2.cell? ⟨w.heap.size + 3, 1, none⟩ = some (.slice none 0 0) := by simp [World.cell?, k2b3]
  have y2 : w2.cell? ⟨w.heap.size + 3, 2, none⟩ = some (.slice none 0 0) := by simp [World.cell?, k2b3]
  have y3 : w2.cell? ⟨w.heap.size + 3, 3, none⟩ = some (.int .i64 0) := by simp [World.cell?, k2b3]
  have z0 : w2.cell? ⟨w.heap.size + 1, 0, none⟩ = some (.string ⟨#[109, 97, 105, 110]⟩) := by simp [World.cell?, k2b1]
  have z1 : w2.cell? ⟨w.heap.size + 1, 1, none⟩ = some (.int .i64 0) := by simp [World.cell?, k2b1]
  have z2 : w2.cell? ⟨w.heap.size + 1, 2, none⟩ = some (.int .i64 4) := by simp [World.cell?, k2b1]
  have z3 : w2.cell? ⟨w.heap.size + 1, 3, none⟩ = some (.slice (some ⟨w.heap.size, 0, none⟩) 2 2) := by simp [World.cell?, k2b1]
  clear k2b1 k2b3
  go_wp2_with fail
  refine (HU.out _ hx2.out).mono ?_
  rintro e w3 ⟨v3, rfl, ho, hw3⟩
  have hx3 := Lib.hid (hx2.out.keep hw3)
  have hB3 := Lib.hid (hB2.out.trans (hw3.mono hB2.out.size))
  have HO := Lib.hid (ints_own ho (i64s (by decide)))
  clear hw3 ho
  clear y0 y1 y2 y3 z0 z1 z2 z3
  go_wp2_with fail
  refine HO.out.mono ?_
  rintro e w4 ⟨rfl, hw4⟩
  have hx4 := Lib.hid (hx3.out.keep hw4)
  have hB4 := Lib.hid (hB3.out.trans (hw4.mono hB3.out.size))
  clear hw4 HO
  have k4b1 := hx4.out.b1
  have k4b3 := hx4.out.b3
  have y0 : w4.cell? ⟨w.heap.size + 3, 0, none⟩ = some (.slice (some ⟨w.heap.size + 1 + 1, 0, none⟩) 1 1) := by simp [World.cell?, k4b3]
  have y1 : w4.cell? ⟨w.heap.size + 3, 1, none⟩ = some (.slice none 0 0) := by simp [World.cell?, k4b3]
  have y2 : w4.cell? ⟨w.heap.size + 3, 2, none⟩ = some (.slice none 0 0) := by simp [World.cell?, k4b3]
  have y3 : w4.cell? ⟨w.heap.size + 3, 3, none⟩ = some (.int .i64 0) := by simp [World.cell?, k4b3]
  have z0 : w4.cell? ⟨w.heap.size + 1, 0, none⟩ = some (.string ⟨#[109, 97, 105, 110]⟩) := by simp [World.cell?, k4b1]
  have z1 : w4.cell? ⟨w.heap.size + 1, 1, none⟩ = some (.int .i64 0) := by simp [World.cell?, k4b1]
  have z2 : w4.cell? ⟨w.heap.size + 1, 2, none⟩ = some (.int .i64 4) := by simp [World.cell?, k4b1]
  have z3 : w4.cell? ⟨w.heap.size + 1, 3, none⟩ = some (.slice (some ⟨w.heap.size, 0, none⟩) 2 2) := by simp [World.cell?, k4b1]
  clear k4b1 k4b3
  go_wp2_with fail
  refine (HD.out _ hx4.out).mono ?_
  rintro e w5 ⟨v5, rfl, ho, hw5⟩
  have hx5 := Lib.hid (hx4.out.keep hw5)
  have hB5 := Lib.hid (hB4.out.trans (hw5.mono hB4.out.size))
  have HO := Lib.hid (ints_own ho (i64s (by decide)))
  clear hw5 ho
  clear y0 y1 y2 y3 z0 z1 z2 z3
  go_wp2_with fail
  refine HO.out.mono ?_
  rintro e w6 ⟨rfl, hw6⟩
  have hx6 := Lib.hid (hx5.out.keep hw6)
  have hB6 := Lib.hid (hB5.out.trans (hw6.mono hB5.out.size))
  clear hw6 HO
  have k6b1 := hx6.out.b1
  have k6b3 := hx6.out.b3
  have y0 : w6.cell? ⟨w.heap.size + 3, 0, none⟩ = some (.slice (some ⟨w.heap.size + 1 + 1, 0, none⟩) 1 1) := by simp [World.cell?, k6b3]
  have y1 : w6.cell? ⟨w.heap.size + 3, 1, none⟩ = some (.slice none 0 0) := by simp [World.cell?, k6b3]
  have y2 : w6.cell? ⟨w.heap.size + 3, 2, none⟩ = some (.slice none 0 0) := by simp [World.cell?, k6b3]
  have y3 : w6.cell? ⟨w.heap.size + 3, 3, none⟩ = some (.int .i64 0) := by simp [World.cell?, k6b3]
  have z0 : w6.cell? ⟨w.heap.size + 1, 0, none⟩ = some (.string ⟨#[109, 97, 105, 110]⟩) := by simp [World.cell?, k6b1]
  have z1 : w6.cell? ⟨w.heap.size + 1, 1, none⟩ = some (.int .i64 0) := by simp [World.cell?, k6b1]
  have z2 : w6.cell? ⟨w.heap.size + 1, 2, none⟩ = some (.int .i64 4) := by simp [World.cell?, k6b1]
  have z3 : w6.cell? ⟨w.heap.size + 1, 3, none⟩ = some (.slice (some ⟨w.heap.size, 0, none⟩) 2 2) := by simp [World.cell?, k6b1]
  clear k6b1 k6b3
  go_wp2_with fail
  refine (HX.out _ hx6.out).mono ?_
  rintro e w7 ⟨v7, rfl, ho, hw7⟩
  have hx7 := Lib.hid (hx6.out.keep hw7)
  have hB7 := Lib.hid (hB6.out.trans (hw7.mono hB6.out.size))
  have HO := Lib.hid (ints_own ho (i64s (by decide)))
  clear hw7 ho
  clear y0 y1 y2 y3 z0 z1 z2 z3
  go_wp2_with fail
  refine HO.out.mono ?_
  rintro e w8 ⟨rfl, hw8⟩
  have hx8 := Lib.hid (hx7.out.keep hw8)
  have hB8 := Lib.hid (hB7.out.trans (hw8.mono hB7.out.size))
  clear hw8 HO
  have k8b1 := hx8.out.b1
  have k8b3 := hx8.out.b3
  have y0 : w8.cell? ⟨w.heap.size + 3, 0, none⟩ = some (.slice (some ⟨w.heap.size + 1 + 1, 0, none⟩) 1 1) := by simp [World.cell?, k8b3]
  have y1 : w8.cell? ⟨w.heap.size + 3, 1, none⟩ = some (.slice none 0 0) := by simp [World.cell?, k8b3]
  have y2 : w8.cell? ⟨w.heap.size + 3, 2, none⟩ = some (.slice none 0 0) := by simp [World.cell?, k8b3]
  have y3 : w8.cell? ⟨w.heap.size + 3, 3, none⟩ = some (.int .i64 0) := by simp [World.cell?, k8b3]
  have z0 : w8.cell? ⟨w.heap.size + 1, 0, none⟩ = some (.string ⟨#[109, 97, 105, 110]⟩) := by simp [World.cell?, k8b1]
  have z1 : w8.cell? ⟨w.heap.size + 1, 1, none⟩ = some (.int .i64 0) := by simp [World.cell?, k8b1]
  have z2 : w8.cell? ⟨w.heap.size + 1, 2, none⟩ = some (.int .i64 4) := by simp [World.cell?, k8b1]
  have z3 : w8.cell? ⟨w.heap.size + 1, 3, none⟩ = some (.slice (some ⟨w.heap.size, 0, none⟩) 2 2) := by simp [World.cell?, k8b1]
  clear k8b1 k8b3
  go_wp2_with fail
  refine (HS.out _).mono ?_
  rintro e w9 ⟨rfl, rfl⟩
  go_wp2_with fail
  refine (HE.out _ hx8.out).mono ?_
  rintro e w10 ⟨rfl, hw10⟩
  go_wp2
  go_ret
  exact ⟨rfl, hB8.out.trans (hw10.mono hB8.out.size)⟩
end Go.Proofs.YtekfhgldebhigaaDoor
