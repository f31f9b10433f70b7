/-
  The walks of the program's folded and rebuilt (package fold).
-/
import Derived.Test.YtnknphchjmnkcaaGreatDoorFG
import Derived.Deep.RegionLaw
set_option linter.all false
namespace Go.Proofs.YtnknphchjmnkcaaGreatDoor
open Go.RowKit T T.Fo
theorem gets_fin {S : Nat → Prop} {w W0 w1 W : World} {r cap : Nat} {A : Option Addr} {h : Hd} {k : Fo} (hS : ∀ b, S b → b < w.heap.size) (hz1 : w.heap.size ≤ r) (hz2 : r < W0.heap.size) (h0 : Below w.heap.size w W0)
    (hk : Kids (fun b => S b ∨ Rng W0.heap.size w1.heap.size b) w1 A k) (hc : k.len ≤ cap) (hb1 : Below W0.heap.size W0 w1)
    (h9 : (∀ b, b ≠ r → W.heap[b]? = w1.heap[b]?) ∧ W.heap.size = w1.heap.size ∧ (Below w.heap.size w w1 → w.heap.size ≤ r → Below w.heap.size w W)) : Gets S h k w (.returned (nv h A k.len cap)) W :=
  ⟨A, cap, rfl, hc, hk.carry fun b hb => ⟨by
    rcases hb with hb | hb
    · exact .inl hb
    · refine .inr ⟨Nat.le_trans h0.size hb.1, ?_⟩
      rw [h9.2.1]; exact hb.2, h9.1 b (by
    rcases hb with hb | hb
    · have := hS b hb; omega
    · have := hb.1; omega)⟩, h9.2.2 (h0.trans (hb1.mono h0.size)) hz1⟩
/-- What stands in folded: the node's box, the result's. -/
structure FoS (w : World) (kd : Int) (t : ByteArray) (p : Int) (V : World) : Prop where
  z : w.heap.size + 1 < V.heap.size
  a0 : V.cell? ⟨w.heap.size, 0, none⟩ = some (.int .i64 kd)
  a1 : V.cell? ⟨w.heap.size, 1, none⟩ = some (.string t)
  a3 : V.cell? ⟨w.heap.size, 3, none⟩ = some (.int .i64 p)
  r : V.heap[w.heap.size + 1]? = some (.cells nc0 26 (0, 0))
  b : Below w.heap.size w V
theorem FoS.start (w : World) (kd : Int) (t : ByteArray) (nu p tk : Int) (tn : ByteArray) (r u : Int) (A : Option Addr) (n cap : Nat) : FoS w kd t p ((w.alloc (.cells (nc ⟨kd, t, nu, p, tk, tn, r, u⟩ A n cap) 26)).alloc (.cells nc0 26)) := by
  have h1 := heap_alloc_new w (.cells (nc ⟨kd, t, nu, p, tk, tn, r, u⟩ A n cap) 26)
  have h2 := heap_alloc_new (w.alloc (.cells (nc ⟨kd, t, nu, p, tk, tn, r, u⟩ A n cap) 26)) (.cells nc0 26)
  have h3 : ((w.alloc (.cells (nc ⟨kd, t, nu, p, tk, tn, r, u⟩ A n cap) 26)).alloc (.cells nc0 26)).heap[w.heap.size]? = _ := (Below.heap_alloc _ _ _ (by simp)).trans h1
  exact ⟨by simp, by simp [World.cell?, h3], by simp [World.cell?, h3], by simp [World.cell?, h3], by simpa using h2, (fb1 w _).trans ((fb1 _ _).mono (by simp))⟩
theorem FoS.keep {w : World} {kd : Int} {t : ByteArray} {p : Int} {V V' : World} (H : FoS w kd t p V) (hb : Below V.heap.size V V') : FoS w kd t p V' :=
  have z := H.z
  ⟨Nat.lt_of_lt_of_le z hb.size, (hb.cell (p := ⟨w.heap.size, 0, none⟩) (by show w.heap.size < _; omega)).trans H.a0, (hb.cell (p := ⟨w.heap.size, 1, none⟩) (by show w.heap.size < _; omega)).trans H.a1, (hb.cell (p := ⟨w.heap.size, 3, none⟩) (by show w.heap.size < _; omega)).trans H.a3, (hb.block _ z).trans H.r, H.b.trans (hb.mono (by omega))⟩
set_option maxRecDepth 100000

set_option maxHeartbeats 2000000 in
theorem folded_18 {S : Nat → Prop} (t : ByteArray) (nu p tk : Int) (tn : ByteArray) (r u : Int) (A0 : Option Addr) (n0 c0 : Nat) (A : Option Addr) (n cap : Nat) (w : World) (h' : Hd) (k' : Fo) (hS : ∀ b, S b → b < w.heap.size) (HC : Hid (∀ V, Below w.heap.size w V → Calls Tryz.prog 66 #[.int .i64 p, .slice A n cap] V (Gets S h' k' V))) :
    Calls Tryz.prog 40 #[nv ⟨18, t, nu, p, tk, tn, r, u⟩ A0 n0 c0, .slice A n cap] w (Gets S h' k' w) := by
  have H0 := Lib.hid (FoS.start w 18 t nu p tk tn r u A0 n0 c0)
  have HS := Lib.hid hS
  clear hS
  go_enter Tryz.func40, Tryz.ntmps40
  go_wp2_with fail
  refine (HC.out _ H0.out.b).mono ?_
  rintro e w1 ⟨A', c', rfl, hl, hk1, hb1⟩
  have h1 := H0.out.keep hb1
  have HB1 := Lib.hid hb1
  have HK1 := Lib.hid hk1
  obtain ⟨z, a0, a1, a3, hr, hb⟩ := h1
  obtain ⟨⟨r0, r1, r2, r3, r4, r5, r6, r7, r8⟩, f0, f1, f2, f3, f4, f5, f6, f7, f8⟩ := zero9 hr
  have HR := Lib.hid hr
  have HL := Lib.hid hl
  obtain ⟨m, hm⟩ : ∃ m, k'.len = m := ⟨_, rfl⟩
  have HM := Lib.hid hm
  rw [hm]
  clear hb1 hk1 hr hb hl hm
  go_wp2
  have hbk := blk9 (h' := litH 0 0 0) (A' := none) (n' := 0) (c' := 0) (h := h') (A := A') (n := m) (c := c') HR.out
  exact ret_cell Tryz.results40 (r := w.heap.size + 1) (h := h') (A := A') (n := m) (c := c') rfl rfl hbk (HM.out ▸ gets_fin HS.out (by omega) (by simp) H0.out.b HK1.out HL.out HB1.out (nine w w1 (w.heap.size + 1) _ _ _ _ _ _ _ _ _ rfl))

set_option maxHeartbeats 2000000 in
theorem folded_s {S : Nat → Prop} (k : Int) (t : ByteArray) (nu p tk : Int) (tn : ByteArray) (r u : Int) (A0 : Option Addr) (n0 c0 : Nat) (A : Option Addr) (n cap : Nat) (w : World) (c : Cv) (hS : ∀ b, S b → b < w.heap.size) (e18 : (k == 18) = false) (t0 : (c.k != 0) = true) (t1 : (c.v != -9223372036854775808) = true) (HE : Hid (∀ V, Below w.heap.size w V → Calls Tryz.prog 35 #[nv ⟨k, t, nu, p, tk, tn, r, u⟩ A n cap, .int .i64 65536] V (RetC c V))) (h' : Hd) (k' : Fo) (HC : Hid (∀ V, Calls Tryz.prog 67 #[cvv c, .int .i64 p] V (Made V h' k'))) :
    Calls Tryz.prog 40 #[nv ⟨k, t, nu, p, tk, tn, r, u⟩ A0 n0 c0, .slice A n cap] w (Gets S h' k' w) := by
  have H0 := Lib.hid (FoS.start w k t nu p tk tn r u A n cap)
  have HS := Lib.hid hS
  clear hS
  go_enter Tryz.func40, Tryz.ntmps40
  go_wp2_with fail
  refine (HE.out _ H0.out.b).mono ?_
  rintro e w1 ⟨rfl, hb1⟩
  have h1 := H0.out.keep hb1
  have HF1 := Lib.hid h1
  have HV := Lib.hid (h1.keep (fb1 w1 (.cells #[.int .i64 c.k, .int .i64 c.v] 49)))
  obtain ⟨z, a0, a1, a3, hr, hb⟩ := h1
  have y1 : w.heap.size < w1.heap.size := by omega
  have y2 : ¬ w.heap.size = w1.heap.size := by omega
  clear hb1 hr hb
  go_wp2_with fail
  refine (HC.out _).mono ?_
  rintro e w2 ⟨A', c', rfl, hl, hk2, hb2⟩
  have h2 := HV.out.keep hb2
  have HB2 := Lib.hid hb2
  have HK2 := Lib.hid hk2
  clear z a0 a1 a3
  obtain ⟨z, a0, a1, a3, hr, hb⟩ := h2
  obtain ⟨⟨r0, r1, r2, r3, r4, r5, r6, r7, r8⟩, f0, f1, f2, f3, f4, f5, f6, f7, f8⟩ := zero9 hr
  have HR := Lib.hid hr
  have HL := Lib.hid hl
  obtain ⟨m, hm⟩ : ∃ m, k'.len = m := ⟨_, rfl⟩
  have HM := Lib.hid hm
  rw [hm]
  clear hb2 hk2 hr hb hl hm
  go_wp2
  have hbk := blk9 (h' := litH 0 0 0) (A' := none) (n' := 0) (c' := 0) (h := h') (A := A') (n := m) (c := c') HR.out
  exact ret_cell Tryz.results40 (r := w.heap.size + 1) (h := h') (A := A') (n := m) (c := c') rfl rfl hbk (HM.out ▸ gets_fin HS.out (by omega) (by have := HV.out.z; omega) HV.out.b (HK2.out.carry fun b hb => ⟨.inr hb, rfl⟩) HL.out HB2.out (nine w w2 (w.heap.size + 1) _ _ _ _ _ _ _ _ _ rfl))

set_option maxHeartbeats 2000000 in
theorem folded_p0 {S : Nat → Prop} (k : Int) (t : ByteArray) (nu p tk : Int) (tn : ByteArray) (r u : Int) (A0 : Option Addr) (n0 c0 : Nat) (A : Option Addr) (n cap : Nat) (w : World) (c : Cv) (hS : ∀ b, S b → b < w.heap.size) (e18 : (k == 18) = false) (t0 : (c.k != 0) = false) (HE : Hid (∀ V, Below w.heap.size w V → Calls Tryz.prog 35 #[nv ⟨k, t, nu, p, tk, tn, r, u⟩ A n cap, .int .i64 65536] V (RetC c V))) (K : Fo) (hn : K.len = n) (hnc : n ≤ cap) (hk : Kids S w A K) :
    Calls Tryz.prog 40 #[nv ⟨k, t, nu, p, tk, tn, r, u⟩ A0 n0 c0, .slice A n cap] w (Gets S ⟨k, t, 0, p, 0, ⟨#[]⟩, 0, 0⟩ K w) := by
  have HN := Lib.hid hn
  have HNC := Lib.hid hnc
  have HKK := Lib.hid hk
  clear hn hnc hk
  have H0 := Lib.hid (FoS.start w k t nu p tk tn r u A n cap)
  have HS := Lib.hid hS
  clear hS
  go_enter Tryz.func40, Tryz.ntmps40
  go_wp2_with fail
  refine (HE.out _ H0.out.b).mono ?_
  rintro e w1 ⟨rfl, hb1⟩
  have h1 := H0.out.keep hb1
  have HF1 := Lib.hid h1
  obtain ⟨z, a0, a1, a3, hr, hb⟩ := h1
  obtain ⟨⟨r0, r1, r2, r3, r4, r5, r6, r7, r8⟩, f0, f1, f2, f3, f4, f5, f6, f7, f8⟩ := zero9 hr
  have HR := Lib.hid hr
  have HB := Lib.hid hb
  have y1 : w.heap.size < w1.heap.size := by omega
  have y2 : ¬ w.heap.size = w1.heap.size := by omega
  have y3 : w.heap.size + 1 < w1.heap.size + 1 := by omega
  have y4 : ¬ w.heap.size + 1 = w1.heap.size := by omega
  have y5 : ¬ w.heap.size + 1 = w.heap.size := by omega
  clear hb1 hr hb
  go_wp2
  have hbk := blk9 (h' := litH 0 0 0) (A' := none) (n' := 0) (c' := 0) (h := ⟨k, t, 0, p, 0, ⟨#[]⟩, 0, 0⟩) (A := A) (n := n) (c := cap) HR.out
  have h9 := nine w w1 (w.heap.size + 1) (.int .i64 k) (.string t) (.int .i64 0) (.int .i64 p) (.slice A n cap) (.int .i64 0) (.string ⟨#[]⟩) (.int .i64 0) (.int .i64 0) rfl
  have hB := h9.2.2 HB.out (by omega)
  have hB2 := hB.alloc (by rw [h9.2.1]; omega) (.cells #[.int .i64 c.k, .int .i64 c.v] 49)
  exact ret_cell Tryz.results40 (r := w.heap.size + 1) (h := ⟨k, t, 0, p, 0, ⟨#[]⟩, 0, 0⟩) (A := A) (n := n) (c := cap) rfl rfl ((Below.heap_alloc _ _ _ (by rw [h9.2.1]; exact z)).trans hbk) ⟨A, cap, by rw [HN.out], by rw [HN.out]; exact HNC.out, HKK.out.carry fun b hb => ⟨.inl hb, hB2.block b (HS.out b hb)⟩, hB2⟩

set_option maxHeartbeats 2000000 in
theorem folded_p1 {S : Nat → Prop} (k : Int) (t : ByteArray) (nu p tk : Int) (tn : ByteArray) (r u : Int) (A0 : Option Addr) (n0 c0 : Nat) (A : Option Addr) (n cap : Nat) (w : World) (c : Cv) (hS : ∀ b, S b → b < w.heap.size) (e18 : (k == 18) = false) (t0 : (c.k != 0) = true) (t1 : (c.v != -9223372036854775808) = false) (HE : Hid (∀ V, Below w.heap.size w V → Calls Tryz.prog 35 #[nv ⟨k, t, nu, p, tk, tn, r, u⟩ A n cap, .int .i64 65536] V (RetC c V))) (K : Fo) (hn : K.len = n) (hnc : n ≤ cap) (hk : Kids S w A K) :
    Calls Tryz.prog 40 #[nv ⟨k, t, nu, p, tk, tn, r, u⟩ A0 n0 c0, .slice A n cap] w (Gets S ⟨k, t, 0, p, 0, ⟨#[]⟩, 0, 0⟩ K w) := by
  have HN := Lib.hid hn
  have HNC := Lib.hid hnc
  have HKK := Lib.hid hk
  clear hn hnc hk
  have H0 := Lib.hid (FoS.start w k t nu p tk tn r u A n cap)
  have HS := Lib.hid hS
  clear hS
  go_enter Tryz.func40, Tryz.ntmps40
  go_wp2_with fail
  refine (HE.out _ H0.out.b).mono ?_
  rintro e w1 ⟨rfl, hb1⟩
  have h1 := H0.out.keep hb1
  have HF1 := Lib.hid h1
  obtain ⟨z, a0, a1, a3, hr, hb⟩ := h1
  obtain ⟨⟨r0, r1, r2, r3, r4, r5, r6, r7, r8⟩, f0, f1, f2, f3, f4, f5, f6, f7, f8⟩ := zero9 hr
  have HR := Lib.hid hr
  have HB := Lib.hid hb
  have y1 : w.heap.size < w1.heap.size := by omega
  have y2 : ¬ w.heap.size = w1.heap.size := by omega
  have y3 : w.heap.size + 1 < w1.heap.size + 1 := by omega
  have y4 : ¬ w.heap.size + 1 = w1.heap.size := by omega
  have y5 : ¬ w.heap.size + 1 = w.heap.size := by omega
  clear hb1 hr hb
  go_wp2
  have hbk := blk9 (h' := litH 0 0 0) (A' := none) (n' := 0) (c' := 0) (h := ⟨k, t, 0, p, 0, ⟨#[]⟩, 0, 0⟩) (A := A) (n := n) (c := cap) HR.out
  have h9 := nine w w1 (w.heap.size + 1) (.int .i64 k) (.string t) (.int .i64 0) (.int .i64 p) (.slice A n cap) (.int .i64 0) (.string ⟨#[]⟩) (.int .i64 0) (.int .i64 0) rfl
  have hB := h9.2.2 HB.out (by omega)
  have hB2 := hB.alloc (by rw [h9.2.1]; omega) (.cells #[.int .i64 c.k, .int .i64 c.v] 49)
  exact ret_cell Tryz.results40 (r := w.heap.size + 1) (h := ⟨k, t, 0, p, 0, ⟨#[]⟩, 0, 0⟩) (A := A) (n := n) (c := cap) rfl rfl ((Below.heap_alloc _ _ _ (by rw [h9.2.1]; exact z)).trans hbk) ⟨A, cap, by rw [HN.out], by rw [HN.out]; exact HNC.out, HKK.out.carry fun b hb => ⟨.inl hb, hB2.block b (HS.out b hb)⟩, hB2⟩

/-- folded, at every head and every row of folded children. -/
theorem folded_any {S : Nat → Prop} (h : Hd) (K : Fo) (A0 : Option Addr) (n0 c0 : Nat) (A : Option Addr) (cap : Nat) (w : World) (hS : ∀ b, S b → b < w.heap.size) (hk : Kids S w A K) (hc : K.len ≤ cap) (h3 : h.kind = 18 → K.len = 3) (hd : K.dep + 1 ≤ 65536) (hr : rgH h) (hA : K.AllH rgH) :
    Calls Tryz.prog 40 #[nv h A0 n0 c0, .slice A K.len cap] w (Gets S (bld h K).1 (bld h K).2 w) := by
  have hl : Kids (Lt w.heap.size) w A K := hk.carry fun b hb => ⟨hS b hb, rfl⟩
  obtain ⟨k, t, nu, p, tk, tn, r, u⟩ := h
  unfold bld
  simp only at h3 ⊢
  by_cases e18 : k = 18
  · subst e18
    rw [if_pos rfl]
    exact folded_18 t nu p tk tn r u A0 n0 c0 A K.len cap w _ _ hS (Lib.hid fun V hV => cond_any p K A cap V (fun b hb => Nat.lt_of_lt_of_le (hS b hb) hV.size) (hk.carry fun b hb => ⟨hb, hV.block b (hS b hb)⟩) hc (h3 rfl) hd)
  · rw [if_neg e18]
    have HE := Lib.hid ((evaluate_any ⟨k, t, nu, p, tk, tn, r, u⟩ K).at_ (A := A) (cap := cap) (w := w) (L := 65536) hl (by omega) (by omega))
    by_cases s : isShort (evT ⟨k, t, nu, p, tk, tn, r, u⟩ K) = true
    · rw [if_pos s]
      obtain ⟨s0, s1⟩ := (isShort_iff _).1 s
      exact folded_s k t nu p tk tn r u A0 n0 c0 A K.len cap w _ hS (by simpa using e18) (by simpa using s0) (by simpa [least] using s1) HE _ _ (Lib.hid fun V => shortest_any _ p V (evT_ok hr hA) s)
    · rw [if_neg s]
      by_cases s0 : (evT ⟨k, t, nu, p, tk, tn, r, u⟩ K).k = 0
      · exact folded_p0 k t nu p tk tn r u A0 n0 c0 A K.len cap w _ hS (by simpa using e18) (by simpa using s0) HE K rfl hc hk
      · exact folded_p1 k t nu p tk tn r u A0 n0 c0 A K.len cap w _ hS (by simpa using e18) (by simpa using s0) (by
          have : ¬ ((evT ⟨k, t, nu, p, tk, tn, r, u⟩ K).v ≠ least) := fun x => s ((isShort_iff _).2 ⟨s0, x⟩)
          simpa [least] using this) HE K rfl hc hk

end Go.Proofs.YtnknphchjmnkcaaGreatDoor
