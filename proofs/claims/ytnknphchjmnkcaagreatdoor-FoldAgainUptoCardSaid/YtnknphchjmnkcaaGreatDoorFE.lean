/-
  The walks of the program's evaluate and Value (package fold).
-/
import Derived.Test.YtnknphchjmnkcaaGreatDoorFD
import Derived.Deep.RegionWith
import Derived.Deep.RegionLaw
import Derived.BigQuiet
set_option linter.all false
namespace Go.Proofs.YtnknphchjmnkcaaGreatDoor
open Go.RowKit T T.Fo
theorem fb1 (w : World) (o : Obj) : Below w.heap.size w (w.alloc o) := (Below.refl _ _).alloc (Nat.le_refl _) _
theorem ieqn (n m : Nat) : ((n : Int) == (m : Int)) = decide (n = m) := by
  by_cases h : n = m
  · simp [h]
  · have : ¬ (n : Int) = m := by omega
    simp [h, this]
theorem kids1 {w : World} {A : Option Addr} {h0 : Hd} {k0 : Fo} (hk : Kids (Lt w.heap.size) w A (.cons h0 k0 .nil)) : ∃ g o A0 c0, A = some ⟨g, o, none⟩ ∧ At9 w g o h0 A0 k0.len c0 ∧ Kids (Lt w.heap.size) w A0 k0 ∧ g < w.heap.size := by
  obtain ⟨g, o, A0, c0, rfl, h9, hc, hk0, _, _, hg⟩ := (Rest.start hk).next
  rw [show o + 0 * 9 = o by omega] at h9
  exact ⟨g, o, A0, c0, rfl, h9, hk0, hg⟩
theorem kids2 {w : World} {A : Option Addr} {h0 h1 : Hd} {k0 k1 : Fo} (hk : Kids (Lt w.heap.size) w A (.cons h0 k0 (.cons h1 k1 .nil))) : ∃ g o A0 c0 A1 c1, A = some ⟨g, o, none⟩ ∧ At9 w g o h0 A0 k0.len c0 ∧ Kids (Lt w.heap.size) w A0 k0 ∧ At9 w g (o + 9) h1 A1 k1.len c1 ∧ Kids (Lt w.heap.size) w A1 k1 ∧ g < w.heap.size := by
  obtain ⟨g, o, A0, c0, rfl, h9, hc, hk0, hr, _, hg⟩ := (Rest.start hk).next
  obtain ⟨g', o', A1, c1, e, h9', hc', hk1, _, _, _⟩ := hr.next
  cases e
  rw [show o + 0 * 9 = o by omega] at h9
  rw [show o + (0 + 1) * 9 = o + 9 by omega] at h9'
  exact ⟨g, o, A0, c0, A1, c1, rfl, h9, hk0, h9', hk1, hg⟩
theorem kidsV {w V : World} {A : Option Addr} {F : Fo} (hk : Kids (Lt w.heap.size) w A F) (hb : Below w.heap.size w V) : Kids (Lt V.heap.size) V A F := (hk.below hb (Nat.le_refl _)).mono hb.size

/-- The contract at a tree: at every world, for every number of levels that suffices. -/
def EvP (h : Hd) (F : Fo) : Prop := ∀ (A : Option Addr) (cap : Nat) (w : World) (L : Int), Kids (Lt w.heap.size) w A F → (F.dep : Int) + 1 ≤ L → L ≤ 65536 →
    Calls Tryz.prog 35 #[nv h A F.len cap, .int .i64 L] w (RetC (evT h F) w)
/-- At every later world. -/
def EvA (h : Hd) (A : Option Addr) (n cap : Nat) (w : World) (L : Int) (c : Cv) : Prop := ∀ V, Below w.heap.size w V → Calls Tryz.prog 35 #[nv h A n cap, .int .i64 L] V (RetC c V)
theorem EvP.at_ {h : Hd} {F : Fo} (H : EvP h F) {A : Option Addr} {cap : Nat} {w : World} {L : Int} (hk : Kids (Lt w.heap.size) w A F) (h1 : (F.dep : Int) + 1 ≤ L) (h2 : L ≤ 65536) : EvA h A F.len cap w L (evT h F) := fun V hV => H A cap V L (kidsV hk hV) h1 h2
/-- isLiteral's answer at every world. -/
def LitA (h : Hd) (A : Option Addr) (n cap : Nat) (b : Bool) : Prop := ∀ V, Calls Tryz.prog 56 #[nv h A n cap] V fun e w' => e = .returned (.bool b) ∧ Below V.heap.size V w'
theorem litA {h : Hd} {A : Option Addr} {n cap : Nat} {b : Bool} (e : isLit h n = b) : LitA h A n cap b := fun V => e ▸ isLit_any h n cap A V
theorem fbox2 {w : World} {b : Nat} {x y : Value} {t : TypeId} (h : w.heap[b]? = some (.cells #[x, y] t (0, 0))) : (w.cell? ⟨b, 0, none⟩ = some x ∧ w.cell? ⟨b, 1, none⟩ = some y) ∧ w.frozen? ⟨b, 0, none⟩ = false ∧ w.frozen? ⟨b, 1, none⟩ = false := by
  simp [World.cell?, World.frozen?, h]
/-- What stands in evaluate behind the test for a literal: the boxes of the node and of the result, a child. -/
structure EvS (w : World) (kd : Int) (t : ByteArray) (A : Option Addr) (n cap g o : Nat) (kh : Hd) (A0 : Option Addr) (n0 c0 : Nat) (V : World) : Prop where
  z : w.heap.size + 1 < V.heap.size
  a0 : V.cell? ⟨w.heap.size, 0, none⟩ = some (.int .i64 kd)
  a1 : V.cell? ⟨w.heap.size, 1, none⟩ = some (.string t)
  a4 : V.cell? ⟨w.heap.size, 4, none⟩ = some (.slice A n cap)
  k : At9 V g o kh A0 n0 c0
  r : V.heap[w.heap.size + 1]? = some (.cells #[.int .i64 0, .int .i64 0] 49 (0, 0))
  b : Below w.heap.size w V
theorem EvS.start {w : World} {kd : Int} {t : ByteArray} {nu p tk : Int} {tn : ByteArray} {r u : Int} {A : Option Addr} {n cap g o : Nat} {kh : Hd} {A0 : Option Addr} {n0 c0 : Nat} (d : At9 w g o kh A0 n0 c0) (hg : g < w.heap.size) :
    EvS w kd t A n cap g o kh A0 n0 c0 ((w.alloc (.cells (nc ⟨kd, t, nu, p, tk, tn, r, u⟩ A n cap) 26)).alloc (.cells #[.int .i64 0, .int .i64 0] 49)) := by
  have h1 := heap_alloc_new w (.cells (nc ⟨kd, t, nu, p, tk, tn, r, u⟩ A n cap) 26)
  have h2 := heap_alloc_new (w.alloc (.cells (nc ⟨kd, t, nu, p, tk, tn, r, u⟩ A n cap) 26)) (.cells #[.int .i64 0, .int .i64 0] 49)
  have h3 : ((w.alloc (.cells (nc ⟨kd, t, nu, p, tk, tn, r, u⟩ A n cap) 26)).alloc (.cells #[.int .i64 0, .int .i64 0] 49)).heap[w.heap.size]? = _ := (Below.heap_alloc _ _ _ (by simp)).trans h1
  have hb : Below w.heap.size w ((w.alloc (.cells (nc ⟨kd, t, nu, p, tk, tn, r, u⟩ A n cap) 26)).alloc (.cells #[.int .i64 0, .int .i64 0] 49)) := (fb1 w _).trans ((fb1 _ _).mono (by simp))
  refine ⟨by simp, by simp [World.cell?, h3], by simp [World.cell?, h3], by simp [World.cell?, h3], d.carry (hb.block g hg), by simpa using h2, hb⟩
theorem EvS.keep {w : World} {kd : Int} {t : ByteArray} {A : Option Addr} {n cap g o : Nat} {kh : Hd} {A0 : Option Addr} {n0 c0 : Nat} {V V' : World} (hg : g < w.heap.size) (H : EvS w kd t A n cap g o kh A0 n0 c0 V) (hb : Below V.heap.size V V') : EvS w kd t A n cap g o kh A0 n0 c0 V' :=
  have z := H.z
  ⟨Nat.lt_of_lt_of_le z hb.size, (hb.cell (p := ⟨w.heap.size, 0, none⟩) (by show w.heap.size < _; omega)).trans H.a0, (hb.cell (p := ⟨w.heap.size, 1, none⟩) (by show w.heap.size < _; omega)).trans H.a1, (hb.cell (p := ⟨w.heap.size, 4, none⟩) (by show w.heap.size < _; omega)).trans H.a4, H.k.carry (hb.block g (by omega)), (hb.block _ z).trans H.r, H.b.trans (hb.mono (by omega))⟩
theorem EvS.drew {w : World} {kd : Int} {t : ByteArray} {A : Option Addr} {n cap g o : Nat} {kh : Hd} {A0 : Option Addr} {n0 c0 : Nat} {V : World} (H : EvS w kd t A n cap g o kh A0 n0 c0 V) : EvS w kd t A n cap g o kh A0 n0 c0 V.drew :=
  ⟨H.z, H.a0, H.a1, H.a4, ⟨H.k.c0, H.k.c1, H.k.c2, H.k.c3, H.k.c4, H.k.c5, H.k.c6, H.k.c7, H.k.c8⟩, H.r, Below.drew H.b⟩
set_option maxRecDepth 100000

theorem ev_lit_w (k : Int) (t : ByteArray) (nu p tk : Int) (tn : ByteArray) (r u : Int) (A : Option Addr) (n cap : Nat) (w : World) (L : Int) (h1 : 1 ≤ L) (h2 : L ≤ 65536) (h0 : (L == 0) = false) (HL : Hid (LitA ⟨k, t, nu, p, tk, tn, r, u⟩ A n cap true)) : Calls Tryz.prog 35 #[nv ⟨k, t, nu, p, tk, tn, r, u⟩ A n cap, .int .i64 L] w (RetC ⟨k, nu⟩ w) := by
  go_enter Tryz.func35, Tryz.ntmps35
  go_wp2_with fail
  refine (HL.out _).mono ?_
  rintro e w1 ⟨rfl, hb1⟩
  obtain ⟨hc1, hf1⟩ := fbcell hb1
  have hz1 : w.heap.size + 1 < w1.heap.size := by have := hb1.size; simp at this; omega
  have HB := Lib.hid (((fb1 w _).trans ((fb1 _ _).mono (by simp))).trans (hb1.mono (by simp; omega)))
  clear hb1
  go_wp2
  refine bodyPost_ret (v := cvv ⟨k, nu⟩) (by simp [results, Tryz.results35, go_sem, hc1, hf1, hz1]) rfl ⟨rfl, ?_⟩
  repeat' (first | exact Below.refl _ _ | exact HB.out | apply Below.setCell | apply Below.alloc | apply Below.drew)
  all_goals (try simp)
  all_goals (try omega)

theorem ev_o (k : Int) (t : ByteArray) (nu p tk : Int) (tn : ByteArray) (r u : Int) (A : Option Addr) (n cap : Nat) (w : World) (L : Int) (h1 : 1 ≤ L) (h2 : L ≤ 65536) (h0 : (L == 0) = false) (HL : Hid (LitA ⟨k, t, nu, p, tk, tn, r, u⟩ A n cap false)) (e31 : (k == 31) = false) (e32 : (k == 32) = false) : Calls Tryz.prog 35 #[nv ⟨k, t, nu, p, tk, tn, r, u⟩ A n cap, .int .i64 L] w (RetC no w) := by
  go_enter Tryz.func35, Tryz.ntmps35
  go_wp2_with fail
  refine (HL.out _).mono ?_
  rintro e w1 ⟨rfl, hb1⟩
  obtain ⟨hc1, hf1⟩ := fbcell hb1
  have hz1 : w.heap.size + 1 < w1.heap.size := by have := hb1.size; simp at this; omega
  have HB := Lib.hid (((fb1 w _).trans ((fb1 _ _).mono (by simp))).trans (hb1.mono (by simp; omega)))
  clear hb1
  go_wp2
  refine bodyPost_ret (v := cvv no) (by simp [results, Tryz.results35, go_sem, hc1, hf1, hz1, no]) rfl ⟨rfl, ?_⟩
  repeat' (first | exact Below.refl _ _ | exact HB.out | apply Below.setCell | apply Below.alloc | apply Below.drew)
  all_goals (try simp)
  all_goals (try omega)

theorem ev_o31 (t : ByteArray) (nu p tk : Int) (tn : ByteArray) (r u : Int) (A : Option Addr) (n cap : Nat) (w : World) (L : Int) (h1 : 1 ≤ L) (h2 : L ≤ 65536) (h0 : (L == 0) = false) (HL : Hid (LitA ⟨31, t, nu, p, tk, tn, r, u⟩ A n cap false)) (en : ((n : Int) == 1) = false) : Calls Tryz.prog 35 #[nv ⟨31, t, nu, p, tk, tn, r, u⟩ A n cap, .int .i64 L] w (RetC no w) := by
  go_enter Tryz.func35, Tryz.ntmps35
  go_wp2_with fail
  refine (HL.out _).mono ?_
  rintro e w1 ⟨rfl, hb1⟩
  obtain ⟨hc1, hf1⟩ := fbcell hb1
  have hz1 : w.heap.size + 1 < w1.heap.size := by have := hb1.size; simp at this; omega
  have HB := Lib.hid (((fb1 w _).trans ((fb1 _ _).mono (by simp))).trans (hb1.mono (by simp; omega)))
  clear hb1
  go_wp2
  refine bodyPost_ret (v := cvv no) (by simp [results, Tryz.results35, go_sem, hc1, hf1, hz1, no]) rfl ⟨rfl, ?_⟩
  repeat' (first | exact Below.refl _ _ | exact HB.out | apply Below.setCell | apply Below.alloc | apply Below.drew)
  all_goals (try simp)
  all_goals (try omega)

theorem ev_o32 (t : ByteArray) (nu p tk : Int) (tn : ByteArray) (r u : Int) (A : Option Addr) (n cap : Nat) (w : World) (L : Int) (h1 : 1 ≤ L) (h2 : L ≤ 65536) (h0 : (L == 0) = false) (HL : Hid (LitA ⟨32, t, nu, p, tk, tn, r, u⟩ A n cap false)) (en : ((n : Int) == 2) = false) : Calls Tryz.prog 35 #[nv ⟨32, t, nu, p, tk, tn, r, u⟩ A n cap, .int .i64 L] w (RetC no w) := by
  go_enter Tryz.func35, Tryz.ntmps35
  go_wp2_with fail
  refine (HL.out _).mono ?_
  rintro e w1 ⟨rfl, hb1⟩
  obtain ⟨hc1, hf1⟩ := fbcell hb1
  have hz1 : w.heap.size + 1 < w1.heap.size := by have := hb1.size; simp at this; omega
  have HB := Lib.hid (((fb1 w _).trans ((fb1 _ _).mono (by simp))).trans (hb1.mono (by simp; omega)))
  clear hb1
  go_wp2
  refine bodyPost_ret (v := cvv no) (by simp [results, Tryz.results35, go_sem, hc1, hf1, hz1, no]) rfl ⟨rfl, ?_⟩
  repeat' (first | exact Below.refl _ _ | exact HB.out | apply Below.setCell | apply Below.alloc | apply Below.drew)
  all_goals (try simp)
  all_goals (try omega)

set_option maxHeartbeats 1000000 in
theorem ev_31 (t : ByteArray) (nu p tk : Int) (tn : ByteArray) (r u : Int) (g o : Nat) (cap : Nat) (w : World) (L : Int) (h1 : 1 ≤ L) (h2 : L ≤ 65536) (h0 : (L == 0) = false) (kh : Hd) (A0 : Option Addr) (n0 c0 : Nat) (c : Cv) (HL : Hid (LitA ⟨31, t, nu, p, tk, tn, r, u⟩ (some ⟨g, o, none⟩) 1 cap false)) (d : At9 w g o kh A0 n0 c0) (hg : g < w.heap.size) (HK : Hid (EvA kh A0 n0 c0 w (L - 1) c)) :
    Calls Tryz.prog 35 #[nv ⟨31, t, nu, p, tk, tn, r, u⟩ (some ⟨g, o, none⟩) 1 cap, .int .i64 L] w (RetC (unL t.toList c) w) := by
  obtain ⟨c2, hc2⟩ : ∃ c2, unL t.toList c = c2 := ⟨_, rfl⟩
  have HU : Hid (∀ V, EvS w 31 t (some ⟨g, o, none⟩) 1 cap g o kh A0 n0 c0 V → Calls Tryz.prog 57 #[.string t, cvv c] V fun e V' => e = .returned (cvv c2) ∧ EvS w 31 t (some ⟨g, o, none⟩) 1 cap g o kh A0 n0 c0 V') := Lib.hid fun V hV => (funary_any t c V).mono fun e V' hq => ⟨by rw [hq.1, hc2], hV.keep hg hq.2⟩
  rw [hc2]
  clear hc2
  have HLS : Hid (Calls Tryz.prog 56 #[nv ⟨31, t, nu, p, tk, tn, r, u⟩ (some ⟨g, o, none⟩) 1 cap] ((w.alloc (.cells (nc ⟨31, t, nu, p, tk, tn, r, u⟩ (some ⟨g, o, none⟩) 1 cap) 26)).alloc (.cells #[.int .i64 0, .int .i64 0] 49)) fun e V => e = .returned (.bool false) ∧ EvS w 31 t (some ⟨g, o, none⟩) 1 cap g o kh A0 n0 c0 V) :=
    Lib.hid ((HL.out _).mono fun e V hq => ⟨hq.1, (EvS.start d hg).keep hg hq.2⟩)
  have g1 : ¬ g = w.heap.size := by omega
  have g2 : ¬ g = w.heap.size + 1 := by omega
  have g3 : g < w.heap.size + 1 := by omega
  have g4 : g < w.heap.size + 1 + 1 := by omega
  have hw9 : IntKind.i64.wrap (L - 1) = L - 1 := IntWalk.i64_in _ (by omega)
  clear d
  go_enter Tryz.func35, Tryz.ntmps35
  go_wp2_with fail
  refine HLS.out.mono ?_
  rintro e w1 ⟨rfl, hs1⟩
  have HKS : Hid (Calls Tryz.prog 35 #[nv kh A0 n0 c0, .int .i64 (L - 1)] w1.drew fun e V => e = .returned (cvv c) ∧ EvS w 31 t (some ⟨g, o, none⟩) 1 cap g o kh A0 n0 c0 V) := Lib.hid ((HK.out _ (Below.drew hs1.b)).mono fun e V hq => ⟨hq.1, hs1.drew.keep hg hq.2⟩)
  have HKT : Hid (Calls Tryz.prog 35 #[nv kh A0 n0 c0, .int .i64 (L - 1)] w1 fun e V => e = .returned (cvv c) ∧ EvS w 31 t (some ⟨g, o, none⟩) 1 cap g o kh A0 n0 c0 V) := Lib.hid ((HK.out _ hs1.b).mono fun e V hq => ⟨hq.1, hs1.keep hg hq.2⟩)
  obtain ⟨z1, a10, a11, a14, ⟨d10, d11, d12, d13, d14, d15, d16, d17, d18⟩, hr1, hb1⟩ := hs1
  obtain ⟨⟨r10, r11⟩, rf10, rf11⟩ := fbox2 hr1
  have HB1 := Lib.hid hb1
  clear hr1 hb1
  go_wp2
  go_region_law (first
    | (go_simp; go_at_call 35; (with_reducible refine HKS.out.mono ?_); rintro e w2 ⟨rfl, hs2⟩; have HS2 := Lib.hid hs2; obtain ⟨z2, a20, a21, a24, ⟨d20, d21, d22, d23, d24, d25, d26, d27, d28⟩, hr2, hb2⟩ := hs2; obtain ⟨⟨r20, r21⟩, rf20, rf21⟩ := fbox2 hr2; have HB2 := Lib.hid hb2; clear hr2 hb2)
    | (go_simp; go_at_call 57; (with_reducible refine (HU.out _ HS2.out).mono ?_); rintro e w3 ⟨rfl, hs3⟩; obtain ⟨z3, a30, a31, a34, ⟨d30, d31, d32, d33, d34, d35, d36, d37, d38⟩, hr3, hb3⟩ := hs3; obtain ⟨⟨r30, r31⟩, rf30, rf31⟩ := fbox2 hr3; have HB3 := Lib.hid hb3; clear hr3 hb3))
  all_goals
    go_wp2
    refine bodyPost_ret (v := cvv c2) (by simp [results, Tryz.results35, go_sem, z3, r30, r31, rf30, rf31]) rfl ⟨rfl, ?_⟩
    have HB := HB3
    repeat' (first | exact Below.refl _ _ | exact HB.out | apply Below.setCell | apply Below.alloc | apply Below.drew)
    all_goals (try simp)
    all_goals (try omega)

set_option maxHeartbeats 1000000 in
theorem ev_32a (t : ByteArray) (nu p tk : Int) (tn : ByteArray) (r u : Int) (g o : Nat) (cap : Nat) (w : World) (L : Int) (h1 : 1 ≤ L) (h2 : L ≤ 65536) (h0 : (L == 0) = false) (kh : Hd) (A0 : Option Addr) (n0 c0 : Nat) (c : Cv) (e0 : (c.k == 0) = true) (HL : Hid (LitA ⟨32, t, nu, p, tk, tn, r, u⟩ (some ⟨g, o, none⟩) 2 cap false)) (d : At9 w g o kh A0 n0 c0) (hg : g < w.heap.size) (HK : Hid (EvA kh A0 n0 c0 w (L - 1) c)) :
    Calls Tryz.prog 35 #[nv ⟨32, t, nu, p, tk, tn, r, u⟩ (some ⟨g, o, none⟩) 2 cap, .int .i64 L] w (RetC no w) := by
  have HLS : Hid (Calls Tryz.prog 56 #[nv ⟨32, t, nu, p, tk, tn, r, u⟩ (some ⟨g, o, none⟩) 2 cap] ((w.alloc (.cells (nc ⟨32, t, nu, p, tk, tn, r, u⟩ (some ⟨g, o, none⟩) 2 cap) 26)).alloc (.cells #[.int .i64 0, .int .i64 0] 49)) fun e V => e = .returned (.bool false) ∧ EvS w 32 t (some ⟨g, o, none⟩) 2 cap g o kh A0 n0 c0 V) :=
    Lib.hid ((HL.out _).mono fun e V hq => ⟨hq.1, (EvS.start d hg).keep hg hq.2⟩)
  have g1 : ¬ g = w.heap.size := by omega
  have g2 : ¬ g = w.heap.size + 1 := by omega
  have g3 : g < w.heap.size + 1 := by omega
  have g4 : g < w.heap.size + 1 + 1 := by omega
  have hw9 : IntKind.i64.wrap (L - 1) = L - 1 := IntWalk.i64_in _ (by omega)
  clear d
  go_enter Tryz.func35, Tryz.ntmps35
  go_wp2_with fail
  refine HLS.out.mono ?_
  rintro e w1 ⟨rfl, hs1⟩
  have HKS : Hid (Calls Tryz.prog 35 #[nv kh A0 n0 c0, .int .i64 (L - 1)] w1.drew fun e V => e = .returned (cvv c) ∧ EvS w 32 t (some ⟨g, o, none⟩) 2 cap g o kh A0 n0 c0 V) := Lib.hid ((HK.out _ (Below.drew hs1.b)).mono fun e V hq => ⟨hq.1, hs1.drew.keep hg hq.2⟩)
  have HKT : Hid (Calls Tryz.prog 35 #[nv kh A0 n0 c0, .int .i64 (L - 1)] w1 fun e V => e = .returned (cvv c) ∧ EvS w 32 t (some ⟨g, o, none⟩) 2 cap g o kh A0 n0 c0 V) := Lib.hid ((HK.out _ hs1.b).mono fun e V hq => ⟨hq.1, hs1.keep hg hq.2⟩)
  obtain ⟨z1, a10, a11, a14, ⟨d10, d11, d12, d13, d14, d15, d16, d17, d18⟩, hr1, hb1⟩ := hs1
  obtain ⟨⟨r10, r11⟩, rf10, rf11⟩ := fbox2 hr1
  have HB1 := Lib.hid hb1
  clear hr1 hb1
  go_wp2_with fail
  refine HKT.out.mono ?_
  rintro e w2 ⟨rfl, hs2⟩
  obtain ⟨z2, a20, a21, a24, ⟨d20, d21, d22, d23, d24, d25, d26, d27, d28⟩, hr2, hb2⟩ := hs2
  obtain ⟨⟨r20, r21⟩, rf20, rf21⟩ := fbox2 hr2
  have HB2 := Lib.hid hb2
  clear hr2 hb2
  go_wp2
  refine bodyPost_ret (v := cvv no) (by simp [results, Tryz.results35, go_sem, z2, r20, r21, rf20, rf21, no]) rfl ⟨rfl, ?_⟩
  have HB := HB2
  repeat' (first | exact Below.refl _ _ | exact HB.out | apply Below.setCell | apply Below.alloc | apply Below.drew)
  all_goals (try simp)
  all_goals (try omega)

/-- What stands behind the first operand. -/
structure EvT (w : World) (kd : Int) (t : ByteArray) (A : Option Addr) (n cap g o : Nat) (kh : Hd) (A0 : Option Addr) (n0 c0 D : Nat) (c : Cv) (V : World) : Prop where
  s : EvS w kd t A n cap g o kh A0 n0 c0 V
  zD : w.heap.size + 1 < D
  zV : D < V.heap.size
  d : V.heap[D]? = some (.cells #[.int .i64 c.k, .int .i64 c.v] 49 (0, 0))
theorem EvT.start {w : World} {kd : Int} {t : ByteArray} {A : Option Addr} {n cap g o : Nat} {kh : Hd} {A0 : Option Addr} {n0 c0 : Nat} {c : Cv} {V : World} (hg : g < w.heap.size) (H : EvS w kd t A n cap g o kh A0 n0 c0 V) :
    EvT w kd t A n cap g o kh A0 n0 c0 V.heap.size c (V.alloc (.cells #[.int .i64 c.k, .int .i64 c.v] 49)) :=
  ⟨H.keep hg (fb1 _ _), H.z, by simp, heap_alloc_new _ _⟩
theorem EvT.keep {w : World} {kd : Int} {t : ByteArray} {A : Option Addr} {n cap g o : Nat} {kh : Hd} {A0 : Option Addr} {n0 c0 D : Nat} {c : Cv} {V V' : World} (hg : g < w.heap.size) (H : EvT w kd t A n cap g o kh A0 n0 c0 D c V) (hb : Below V.heap.size V V') : EvT w kd t A n cap g o kh A0 n0 c0 D c V' :=
  ⟨H.s.keep hg hb, H.zD, Nat.lt_of_lt_of_le H.zV hb.size, (hb.block _ H.zV).trans H.d⟩
theorem EvT.drew {w : World} {kd : Int} {t : ByteArray} {A : Option Addr} {n cap g o : Nat} {kh : Hd} {A0 : Option Addr} {n0 c0 D : Nat} {c : Cv} {V : World} (H : EvT w kd t A n cap g o kh A0 n0 c0 D c V) : EvT w kd t A n cap g o kh A0 n0 c0 D c V.drew := ⟨H.s.drew, H.zD, H.zV, H.d⟩
/-- The second child. -/
theorem EvS.other {w : World} {kd : Int} {t : ByteArray} {A : Option Addr} {n cap g o o' : Nat} {kh kh' : Hd} {A0 A0' : Option Addr} {n0 c0 n0' c0' : Nat} {V : World} (hg : g < w.heap.size) (H : EvS w kd t A n cap g o kh A0 n0 c0 V) (d : At9 w g o' kh' A0' n0' c0') : EvS w kd t A n cap g o' kh' A0' n0' c0' V :=
  ⟨H.z, H.a0, H.a1, H.a4, d.carry (H.b.block g hg), H.r, H.b⟩

set_option maxHeartbeats 4000000 in
theorem ev_32b (t : ByteArray) (nu p tk : Int) (tn : ByteArray) (r u : Int) (g o : Nat) (cap : Nat) (w : World) (L : Int) (h1 : 1 ≤ L) (h2 : L ≤ 65536) (h0 : (L == 0) = false) (kh : Hd) (A0 : Option Addr) (n0 c0 : Nat) (c : Cv) (e0 : (c.k == 0) = false) (HL : Hid (LitA ⟨32, t, nu, p, tk, tn, r, u⟩ (some ⟨g, o, none⟩) 2 cap false)) (d : At9 w g o kh A0 n0 c0) (hg : g < w.heap.size) (HK : Hid (EvA kh A0 n0 c0 w (L - 1) c))
    (kh' : Hd) (A0' : Option Addr) (n0' c0' : Nat) (c' : Cv) (d' : At9 w g (o + 9) kh' A0' n0' c0') (HK' : Hid (EvA kh' A0' n0' c0' w (L - 1) c')) :
    Calls Tryz.prog 35 #[nv ⟨32, t, nu, p, tk, tn, r, u⟩ (some ⟨g, o, none⟩) 2 cap, .int .i64 L] w (RetC (binL t.toList c c') w) := by
  obtain ⟨c2, hc2⟩ : ∃ c2, binL t.toList c c' = c2 := ⟨_, rfl⟩
  rw [hc2]
  have HU0 : Hid (∀ D V, EvT w 32 t (some ⟨g, o, none⟩) 2 cap g (o + 9) kh' A0' n0' c0' D c V → Calls Tryz.prog 58 #[.string t, cvv c, cvv c'] V fun e V' => e = .returned (cvv c2) ∧ EvT w 32 t (some ⟨g, o, none⟩) 2 cap g (o + 9) kh' A0' n0' c0' D c V') := Lib.hid fun D V hV => (fbinary_any t c c' V).mono fun e V' hq => ⟨by rw [hq.1, hc2], hV.keep hg hq.2⟩
  have HD := Lib.hid d'
  clear hc2 d'
  have HLS : Hid (Calls Tryz.prog 56 #[nv ⟨32, t, nu, p, tk, tn, r, u⟩ (some ⟨g, o, none⟩) 2 cap] ((w.alloc (.cells (nc ⟨32, t, nu, p, tk, tn, r, u⟩ (some ⟨g, o, none⟩) 2 cap) 26)).alloc (.cells #[.int .i64 0, .int .i64 0] 49)) fun e V => e = .returned (.bool false) ∧ EvS w 32 t (some ⟨g, o, none⟩) 2 cap g o kh A0 n0 c0 V) :=
    Lib.hid ((HL.out _).mono fun e V hq => ⟨hq.1, (EvS.start d hg).keep hg hq.2⟩)
  have g1 : ¬ g = w.heap.size := by omega
  have g2 : ¬ g = w.heap.size + 1 := by omega
  have g3 : g < w.heap.size + 1 := by omega
  have g4 : g < w.heap.size + 1 + 1 := by omega
  have hw9 : IntKind.i64.wrap (L - 1) = L - 1 := IntWalk.i64_in _ (by omega)
  clear d
  go_enter Tryz.func35, Tryz.ntmps35
  go_wp2_with fail
  refine HLS.out.mono ?_
  rintro e w1 ⟨rfl, hs1⟩
  have HKS : Hid (Calls Tryz.prog 35 #[nv kh A0 n0 c0, .int .i64 (L - 1)] w1.drew fun e V => e = .returned (cvv c) ∧ EvS w 32 t (some ⟨g, o, none⟩) 2 cap g o kh A0 n0 c0 V) := Lib.hid ((HK.out _ (Below.drew hs1.b)).mono fun e V hq => ⟨hq.1, hs1.drew.keep hg hq.2⟩)
  have HKT : Hid (Calls Tryz.prog 35 #[nv kh A0 n0 c0, .int .i64 (L - 1)] w1 fun e V => e = .returned (cvv c) ∧ EvS w 32 t (some ⟨g, o, none⟩) 2 cap g o kh A0 n0 c0 V) := Lib.hid ((HK.out _ hs1.b).mono fun e V hq => ⟨hq.1, hs1.keep hg hq.2⟩)
  obtain ⟨z1, a10, a11, a14, ⟨d10, d11, d12, d13, d14, d15, d16, d17, d18⟩, hr1, hb1⟩ := hs1
  obtain ⟨⟨r10, r11⟩, rf10, rf11⟩ := fbox2 hr1
  have HB1 := Lib.hid hb1
  clear hr1 hb1
  go_wp2_with fail
  refine HKT.out.mono ?_
  rintro e w2 ⟨rfl, hs2⟩
  have HT := Lib.hid (EvT.start (c := c) hg (EvS.other hg hs2 HD.out))
  obtain ⟨z2, a20, a21, a24, ⟨d20, d21, d22, d23, d24, d25, d26, d27, d28⟩, hr2, hb2⟩ := hs2
  obtain ⟨⟨r20, r21⟩, rf20, rf21⟩ := fbox2 hr2
  have HB2 := Lib.hid hb2
  clear hr2 hb2
  clear d20 d21 d22 d23 d24 d25 d26 d27 d28
  go_wp2
  have hs3 := HT.out
  clear HT HLS HKS HKT z1 a10 a11 a14 d10 d11 d12 d13 d14 d15 d16 d17 d18 r10 r11 rf10 rf11 HB1 z2 a20 a21 a24 r20 r21 rf20 rf21 HB2
  generalize hW : w2.alloc (.cells #[.int .i64 c.k, .int .i64 c.v] 49) = V3 at hs3 ⊢
  generalize hD : w2.heap.size = D at hs3 ⊢
  clear hW hD
  have HKS2 : Hid (Calls Tryz.prog 35 #[nv kh' A0' n0' c0', .int .i64 (L - 1)] V3.drew fun e V => e = .returned (cvv c') ∧ EvT w 32 t (some ⟨g, o, none⟩) 2 cap g (o + 9) kh' A0' n0' c0' D c V) := Lib.hid ((HK'.out _ (Below.drew hs3.s.b)).mono fun e V hq => ⟨hq.1, hs3.drew.keep hg hq.2⟩)
  have HU := Lib.hid (HU0.out D)
  clear HU0 HK' HK HD HL
  obtain ⟨⟨z3, a30, a31, a34, ⟨d30, d31, d32, d33, d34, d35, d36, d37, d38⟩, hr3, hb3⟩, zD3, zV3, hd3⟩ := hs3
  obtain ⟨⟨r30, r31⟩, rf30, rf31⟩ := fbox2 hr3
  obtain ⟨⟨s30, s31⟩, sf30, sf31⟩ := fbox2 hd3
  have HB3 := Lib.hid hb3
  clear hr3 hb3 hd3 sf30 sf31
  have n1 : ¬ D = w.heap.size := by omega
  have n2 : ¬ D = w.heap.size + 1 := by omega
  go_region_law (first
    | (go_simp; go_at_call 35; (with_reducible refine HKS2.out.mono ?_); rintro e w4 ⟨rfl, hs4⟩; have HS4 := Lib.hid hs4; obtain ⟨⟨z4, a40, a41, a44, ⟨d40, d41, d42, d43, d44, d45, d46, d47, d48⟩, hr4, hb4⟩, zD4, zV4, hd4⟩ := hs4; obtain ⟨⟨r40, r41⟩, rf40, rf41⟩ := fbox2 hr4; obtain ⟨⟨s40, s41⟩, sf40, sf41⟩ := fbox2 hd4; have HB4 := Lib.hid hb4; clear hr4 hb4 hd4 sf40 sf41)
    | (go_simp; go_at_call 58; (with_reducible refine (HU.out _ HS4.out).mono ?_); rintro e w5 ⟨rfl, hs5⟩; obtain ⟨⟨z5, a50, a51, a54, ⟨d50, d51, d52, d53, d54, d55, d56, d57, d58⟩, hr5, hb5⟩, zD5, zV5, hd5⟩ := hs5; obtain ⟨⟨r50, r51⟩, rf50, rf51⟩ := fbox2 hr5; obtain ⟨⟨s50, s51⟩, sf50, sf51⟩ := fbox2 hd5; have HB5 := Lib.hid hb5; clear hr5 hb5 hd5 sf50 sf51))
  all_goals
    go_wp2
    refine bodyPost_ret (v := cvv c2) (by simp [results, Tryz.results35, go_sem, z5, r50, r51, rf50, rf51]) rfl ⟨rfl, ?_⟩
    have HB := HB5
    repeat' (first | exact Below.refl _ _ | exact HB.out | apply Below.setCell | apply Below.alloc | apply Below.drew)
    all_goals (try simp)
    all_goals (try omega)

theorem isLit_no {h : Hd} {n : Nat} (hn : ¬ n = 0) : isLit h n = false := by unfold isLit; simp [hn]
theorem dep_kid {h : Hd} {k r : Fo} : k.dep + 1 ≤ (Fo.cons h k r).dep ∧ r.dep ≤ (Fo.cons h k r).dep := by simp only [Fo.dep]; omega
/-- evaluate, at every tree, with levels enough. -/
theorem evaluate_any (h : Hd) (F : Fo) : EvP h F := by
  refine Fo.ind (P := EvP) ?_ h F
  clear h F
  intro h F ih A cap w L hk h1 h2
  have h0 : (L == 0) = false := by simp; omega
  have hL1 : 1 ≤ L := by omega
  by_cases hl : isLit h F.len = true
  · have e : evT h F = ⟨h.kind, h.num⟩ := by unfold evT evC; rw [evF_len, hl]; rfl
    rw [e]
    obtain ⟨k, t, nu, p, tk, tn, r, u⟩ := h
    exact ev_lit_w k t nu p tk tn r u A F.len cap w L hL1 h2 h0 (Lib.hid (litA hl))
  · have hl' : isLit h F.len = false := by simpa using hl
    by_cases k31 : h.kind = 31
    · by_cases n1 : F.len = 1
      · match F, n1 with
        | .cons kh kk .nil, _ =>
          obtain ⟨g, o, A0, c0, rfl, d, hk0, hg⟩ := kids1 hk
          have hd := dep_kid (h := kh) (k := kk) (r := .nil)
          have e : evT h (.cons kh kk .nil) = unL h.text.toList (evT kh kk) := by
            show evC h [evT kh kk] = _
            unfold evC
            rw [show isLit h [evT kh kk].length = false from hl', ByteArray.toList_eq]
            simp [k31]
          rw [e]
          obtain ⟨k, t, nu, p, tk, tn, r, u⟩ := h
          simp only at k31
          subst k31
          exact ev_31 t nu p tk tn r u g o cap w L hL1 h2 h0 kh A0 kk.len c0 _ (Lib.hid (litA hl')) d hg (Lib.hid (ih.1.at_ hk0 (by omega) (by omega)))
      · have e : evT h F = no := by
          have hf := evF_len F
          unfold evT evC
          rw [hf, hl']
          simp only [Bool.false_eq_true, if_false]
          split
          · rename_i a ha; rw [ha] at hf; exact absurd hf.symm n1
          · rw [if_neg (fun x => by omega)]
          · rfl
        rw [e]
        obtain ⟨k, t, nu, p, tk, tn, r, u⟩ := h
        simp only at k31
        subst k31
        exact ev_o31 t nu p tk tn r u A F.len cap w L hL1 h2 h0 (Lib.hid (litA hl')) (by rw [show ((F.len : Int) == 1) = decide (F.len = 1) from ieqn F.len 1]; simpa using n1)
    · by_cases k32 : h.kind = 32
      · by_cases n2 : F.len = 2
        · match F, n2 with
          | .cons kh kk (.cons kh' kk' .nil), _ =>
            obtain ⟨g, o, A0, c0, A1, c1, rfl, d, hk0, d', hk1, hg⟩ := kids2 hk
            have hd := dep_kid (h := kh) (k := kk) (r := .cons kh' kk' .nil)
            have hd' := dep_kid (h := kh') (k := kk') (r := .nil)
            by_cases z : (evT kh kk).k = 0
            · have e : evT h (.cons kh kk (.cons kh' kk' .nil)) = no := by
                show evC h [evT kh kk, evT kh' kk'] = _
                unfold evC
                rw [show isLit h [evT kh kk, evT kh' kk'].length = false from hl']
                simp [k32, z]
              rw [e]
              obtain ⟨k, t, nu, p, tk, tn, r, u⟩ := h
              simp only at k32
              subst k32
              exact ev_32a t nu p tk tn r u g o cap w L hL1 h2 h0 kh A0 kk.len c0 _ (by simpa using z) (Lib.hid (litA hl')) d hg (Lib.hid (ih.1.at_ hk0 (by omega) (by omega)))
            · have e : evT h (.cons kh kk (.cons kh' kk' .nil)) = binL h.text.toList (evT kh kk) (evT kh' kk') := by
                show evC h [evT kh kk, evT kh' kk'] = _
                unfold evC
                rw [show isLit h [evT kh kk, evT kh' kk'].length = false from hl', ByteArray.toList_eq]
                simp [k32, z]
              rw [e]
              obtain ⟨k, t, nu, p, tk, tn, r, u⟩ := h
              simp only at k32
              subst k32
              exact ev_32b t nu p tk tn r u g o cap w L hL1 h2 h0 kh A0 kk.len c0 _ (by simpa using z) (Lib.hid (litA hl')) d hg (Lib.hid (ih.1.at_ hk0 (by omega) (by omega))) kh' A1 kk'.len c1 _ d' (Lib.hid (ih.2.1.at_ hk1 (by omega) (by omega)))
        · have e : evT h F = no := by
            have hf := evF_len F
            unfold evT evC
            rw [hf, hl']
            simp only [Bool.false_eq_true, if_false]
            split
            · rw [if_neg k31]
            · rename_i a b ha; rw [ha] at hf; exact absurd hf.symm n2
            · rfl
          rw [e]
          obtain ⟨k, t, nu, p, tk, tn, r, u⟩ := h
          simp only at k32
          subst k32
          exact ev_o32 t nu p tk tn r u A F.len cap w L hL1 h2 h0 (Lib.hid (litA hl')) (by rw [show ((F.len : Int) == 2) = decide (F.len = 2) from ieqn F.len 2]; simpa using n2)
      · have e : evT h F = no := by
          unfold evT evC
          rw [evF_len, hl']
          simp only [Bool.false_eq_true, if_false]
          split
          · rw [if_neg k31]
          · rw [if_neg (fun x => k32 x.1)]
          · rfl
        rw [e]
        obtain ⟨k, t, nu, p, tk, tn, r, u⟩ := h
        exact ev_o k t nu p tk tn r u A F.len cap w L hL1 h2 h0 (Lib.hid (litA hl')) (by simpa using k31) (by simpa using k32)

end Go.Proofs.YtnknphchjmnkcaaGreatDoor
