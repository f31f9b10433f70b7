/-
  The walk of the program's Binary.
-/
import Derived.Test.YtijhdlmnoinfiaaGreatDoorFF
import Derived.RegionTactic
import Derived.BigRegion
set_option linter.all false
namespace Go.Proofs.YtijhdlmnoinfiaaGreatDoor
open Go.RowKit T T.Fo Ty

/-- Three boxes, the third zero. -/
structure S3 (w : World) (k : Int) (s : ByteArray) (k' : Int) (s' : ByteArray) (V : World) : Prop where
  z : w.heap.size + 1 + 1 < V.heap.size
  a0 : V.cell? ⟨w.heap.size, 0, none⟩ = some (.int .i64 k)
  a1 : V.cell? ⟨w.heap.size, 1, none⟩ = some (.string s)
  c0 : V.cell? ⟨w.heap.size + 1, 0, none⟩ = some (.int .i64 k')
  c1 : V.cell? ⟨w.heap.size + 1, 1, none⟩ = some (.string s')
  r : V.heap[w.heap.size + 1 + 1]? = some (.cells #[.int .i64 0, .string ⟨#[]⟩] 24 (0, 0))
  b : Below w.heap.size w V
theorem S3.start (w : World) (k : Int) (s : ByteArray) (k' : Int) (s' : ByteArray) : S3 w k s k' s' (((w.alloc (.cells #[.int .i64 k, .string s] 24)).alloc (.cells #[.int .i64 k', .string s'] 24)).alloc (.cells #[.int .i64 0, .string ⟨#[]⟩] 24)) :=
  have h0 := (S2.start w k s k' s').keep ((Below.refl _ _).alloc (Nat.le_refl _) (.cells #[.int .i64 0, .string ⟨#[]⟩] 24))
  ⟨by simp, h0.a0, h0.a1, h0.c0, h0.c1, by
    have := heap_alloc_new ((w.alloc (.cells #[.int .i64 k, .string s] 24)).alloc (.cells #[.int .i64 k', .string s'] 24)) (.cells #[.int .i64 0, .string ⟨#[]⟩] 24)
    simpa using this, b3 _ _ _ _⟩
theorem S3.keep {w V V' : World} {k k' : Int} {s s' : ByteArray} (h : S3 w k s k' s' V) (hb : Below V.heap.size V V') : S3 w k s k' s' V' :=
  have z := h.z
  ⟨Nat.lt_of_lt_of_le z hb.size, (hb.cell (p := ⟨w.heap.size, 0, none⟩) (by show w.heap.size < _; omega)).trans h.a0, (hb.cell (p := ⟨w.heap.size, 1, none⟩) (by show w.heap.size < _; omega)).trans h.a1,
    (hb.cell (p := ⟨w.heap.size + 1, 0, none⟩) (by show w.heap.size + 1 < _; omega)).trans h.c0, (hb.cell (p := ⟨w.heap.size + 1, 1, none⟩) (by show w.heap.size + 1 < _; omega)).trans h.c1, (hb.block _ z).trans h.r, h.b.trans (hb.mono (by omega))⟩

theorem bin_yes {c : Nat} {n r k k' : Int} {s s' : ByteArray} (hc : (c = 1 ∧ n = 1 ∧ r = 1) ∨ (c = 2 ∧ n = 1 ∧ r = 2) ∨ (c = 4 ∧ n = 2 ∧ r = 2)) (h1 : k = n) (h2 : s.toList = []) (h3 : k' = n) (h4 : s'.toList = []) : binC c k s k' s' = r := by
  rcases hc with ⟨rfl, rfl, rfl⟩ | ⟨rfl, rfl, rfl⟩ | ⟨rfl, rfl, rfl⟩ <;> subst h1 <;> subst h3 <;> simp [binC, isK, emp, h2, h4]
theorem bin_no {c : Nat} {n k k' : Int} {s s' : ByteArray} (hc : (c = 1 ∧ n = 1) ∨ (c = 2 ∧ n = 1) ∨ (c = 4 ∧ n = 2)) (h : ¬ k = n ∨ ¬ s.toList = [] ∨ ¬ k' = n ∨ ¬ s'.toList = []) : binC c k s k' s' = 0 := by
  rcases hc with ⟨rfl, rfl⟩ | ⟨rfl, rfl⟩ | ⟨rfl, rfl⟩ <;> rcases h with h | h | h | h <;> simp [binC, isK, emp, h]
theorem far {b n : Nat} (h : b + 1 + 1 < n) : b < n ∧ b + 1 < n ∧ ¬ b = n ∧ ¬ b = n + 1 ∧ ¬ b = n + 1 + 1 ∧ ¬ b + 1 = n ∧ ¬ b = n ∧ ¬ b + 1 = n + 1 + 1 ∧ ¬ b + 1 + 1 = n ∧ ¬ b + 1 = n + 1 ∧ ¬ b = n + 1 ∧ b < n + 1 ∧ b < n + 1 + 1 ∧ b + 1 < n + 1 + 1 ∧ b + 1 < n + 1 ∧ b + 1 + 1 < n + 1 + 1 ∧ b + 1 + 1 < n + 1 := by
  refine ⟨?_, ?_, ?_, ?_, ?_, ?_, ?_, ?_, ?_, ?_, ?_, ?_, ?_, ?_, ?_, ?_, ?_⟩ <;> omega
/-- Behind the call of Comparable. -/
theorem fourth {b : Nat} {V V1 : World} {A B : Obj} {x y : Value} (z : b + 1 + 1 < V.heap.size) (r0 : V.cell? ⟨b + 1 + 1, 0, none⟩ = some x) (r1 : V.cell? ⟨b + 1 + 1, 1, none⟩ = some y) (rf0 : V.frozen? ⟨b + 1 + 1, 0, none⟩ = false) (rf1 : V.frozen? ⟨b + 1 + 1, 1, none⟩ = false)
    (hb : Below (((V.alloc A).alloc B).alloc (.cells #[.int .i64 2, .string ⟨#[]⟩] 24)).drew.heap.size (((V.alloc A).alloc B).alloc (.cells #[.int .i64 2, .string ⟨#[]⟩] 24)).drew V1) :
    V1.cell? ⟨b + 1 + 1, 0, none⟩ = some x ∧ V1.cell? ⟨b + 1 + 1, 1, none⟩ = some y ∧ V1.frozen? ⟨b + 1 + 1, 0, none⟩ = false ∧ V1.frozen? ⟨b + 1 + 1, 1, none⟩ = false ∧
    V1.cell? ⟨V.heap.size + 1 + 1, 0, none⟩ = some (.int .i64 2) ∧ V1.cell? ⟨V.heap.size + 1 + 1, 1, none⟩ = some (.string ⟨#[]⟩) ∧ V.heap.size + 1 + 1 < V1.heap.size ∧ b + 1 + 1 < V1.heap.size ∧ Below V.heap.size V V1 := by
  have hs : (((V.alloc A).alloc B).alloc (.cells #[.int .i64 2, .string ⟨#[]⟩] 24)).drew.heap.size = V.heap.size + 1 + 1 + 1 := by
    show (((V.alloc A).alloc B).alloc (.cells #[.int .i64 2, .string ⟨#[]⟩] 24)).heap.size = _
    simp
  have hz := hb.size
  have B0 : Below V.heap.size V (((V.alloc A).alloc B).alloc (.cells #[.int .i64 2, .string ⟨#[]⟩] 24)).drew := Below.drew (b3 V _ _ _)
  have B1 : Below V.heap.size V V1 := B0.trans (hb.mono (by omega))
  have hc : V1.heap[V.heap.size + 1 + 1]? = some (.cells #[.int .i64 2, .string ⟨#[]⟩] 24 (0, 0)) := by
    refine (hb.block _ (by omega)).trans ?_
    have := heap_alloc_new ((V.alloc A).alloc B) (.cells #[.int .i64 2, .string ⟨#[]⟩] 24)
    simp only [World.size_alloc] at this
    exact this
  obtain ⟨x0, x1, _⟩ := box2 hc
  exact ⟨(B1.cell (p := ⟨b + 1 + 1, 0, none⟩) z).trans r0, (B1.cell (p := ⟨b + 1 + 1, 1, none⟩) z).trans r1, (B1.frozen (p := ⟨b + 1 + 1, 0, none⟩) z).trans rf0, (B1.frozen (p := ⟨b + 1 + 1, 1, none⟩) z).trans rf1, x0, x1, by omega, by omega, B1⟩
theorem int_cases (k k' : Int) (s s' : ByteArray) : ((k == 1) = true ∧ (s.toList == []) = true ∧ (k' == 1) = true ∧ (s'.toList == []) = true) ∨ (k == 1) = false ∨ ((k == 1) = true ∧ (s.toList == []) = false) ∨ ((k == 1) = true ∧ (s.toList == []) = true ∧ (k' == 1) = false) ∨ ((k == 1) = true ∧ (s.toList == []) = true ∧ (k' == 1) = true ∧ (s'.toList == []) = false) := by
  cases (k == 1) <;> cases (s.toList == []) <;> cases (k' == 1) <;> cases (s'.toList == []) <;> simp
set_option maxRecDepth 100000 in
set_option maxHeartbeats 4000000 in
theorem ybin_43 (k : Int) (s : ByteArray) (k' : Int) (s' : ByteArray) (w : World) (hm : s.size ≤ maxLen) (hm' : s'.size ≤ maxLen) (hG : Glob w) :
    Calls Tryz.prog 27 #[.string ⟨#[43]⟩, tyv k s, tyv k' s'] w fun e w' => e = .returned (.tuple #[tyv (binC 1 k s k' s') ⟨#[]⟩, .bool (decide (binC 1 k s k' s' ≠ 0))]) ∧ Below w.heap.size w w' := by
  clear hm hm' hG
  rcases int_cases k k' s s' with ⟨h1, h2, h3, h4⟩ | h1 | ⟨h1, h2⟩ | ⟨h1, h2, h3⟩ | ⟨h1, h2, h3, h4⟩
  · have e : binC 1 k s k' s' = 1 := bin_yes (.inl ⟨rfl, rfl, rfl⟩) (by simpa using h1) (by simpa using h2) (by simpa using h3) (by simpa using h4)
    rw [e]
    have HP : Hid (Calls Tryz.prog 36 #[.int .i64 1] (((w.alloc (.cells #[.int .i64 k, .string s] 24)).alloc (.cells #[.int .i64 k', .string s'] 24)).alloc (.cells #[.int .i64 0, .string ⟨#[]⟩] 24)) fun e V => e = .returned (tyv 1 ⟨#[]⟩) ∧ S3 w k s k' s' V) := Lib.hid ((plain_any 1 _).mono fun e V hq => ⟨hq.1, (S3.start w k s k' s').keep hq.2⟩)
    have HP2 : Hid (∀ V, S3 w k s k' s' V → Calls Tryz.prog 36 #[.int .i64 2] V fun e V' => e = .returned (tyv 2 ⟨#[]⟩) ∧ S3 w k s k' s' V') := Lib.hid fun V hV => (plain_any 2 V).mono fun e V' hq => ⟨hq.1, hV.keep hq.2⟩
    go_enter Tryz.func27, Tryz.ntmps27
    go_wp2_with fail
    refine HP.out.mono ?_
    rintro e V0 ⟨rfl, hS⟩
    go_wp2_with fail
    refine (HP2.out V0 hS).mono ?_
    rintro e V ⟨rfl, hS⟩
    obtain ⟨z, a0, a1, c0, c1, hr, hb⟩ := hS
    obtain ⟨r0, r1, rf⟩ := box2 hr
    have rf0 := rf 0
    have rf1 := rf 1
    have HB := Lib.hid hb
    obtain ⟨z0, z1, n0, n1, n2, m0, m1, m2, k0, k1, k2, y0, y1, y2, y3, y4, y5⟩ := far z
    clear hS hr hb rf
    go_wp2
    go_region
    go_wp2
    go_region
    go_wp2
    refine bodyPost_ret (v := .tuple #[tyv 1 ⟨#[]⟩, .bool true]) (by simp [results, Tryz.results27, go_sem, z, z0, z1, n0, n1, n2, m0, m1, m2, k0, k1, k2, y0, y1, y2, y3, y4, y5, r0, r1, rf0, rf1]) rfl ⟨rfl, ?_⟩
    repeat' (first | exact Below.refl _ _ | exact HB.out | apply Below.setCell | apply Below.alloc | apply Below.drew)
    all_goals (try simp)
    all_goals (try omega)
  · have e : binC 1 k s k' s' = 0 := bin_no (.inl ⟨rfl, rfl⟩) (.inl (by simpa using h1))
    rw [e]
    have HP : Hid (Calls Tryz.prog 36 #[.int .i64 1] (((w.alloc (.cells #[.int .i64 k, .string s] 24)).alloc (.cells #[.int .i64 k', .string s'] 24)).alloc (.cells #[.int .i64 0, .string ⟨#[]⟩] 24)) fun e V => e = .returned (tyv 1 ⟨#[]⟩) ∧ S3 w k s k' s' V) := Lib.hid ((plain_any 1 _).mono fun e V hq => ⟨hq.1, (S3.start w k s k' s').keep hq.2⟩)
    have HP2 : Hid (∀ V, S3 w k s k' s' V → Calls Tryz.prog 36 #[.int .i64 2] V fun e V' => e = .returned (tyv 2 ⟨#[]⟩) ∧ S3 w k s k' s' V') := Lib.hid fun V hV => (plain_any 2 V).mono fun e V' hq => ⟨hq.1, hV.keep hq.2⟩
    go_enter Tryz.func27, Tryz.ntmps27
    go_wp2_with fail
    refine HP.out.mono ?_
    rintro e V0 ⟨rfl, hS⟩
    go_wp2_with fail
    refine (HP2.out V0 hS).mono ?_
    rintro e V ⟨rfl, hS⟩
    obtain ⟨z, a0, a1, c0, c1, hr, hb⟩ := hS
    obtain ⟨r0, r1, rf⟩ := box2 hr
    have rf0 := rf 0
    have rf1 := rf 1
    have HB := Lib.hid hb
    obtain ⟨z0, z1, n0, n1, n2, m0, m1, m2, k0, k1, k2, y0, y1, y2, y3, y4, y5⟩ := far z
    clear hS hr hb rf
    go_wp2
    go_region
    go_wp2
    go_region
    go_wp2
    refine bodyPost_ret (v := .tuple #[tyv 0 ⟨#[]⟩, .bool false]) (by simp [results, Tryz.results27, go_sem, z, z0, z1, n0, n1, n2, m0, m1, m2, k0, k1, k2, y0, y1, y2, y3, y4, y5, r0, r1, rf0, rf1]) rfl ⟨rfl, ?_⟩
    repeat' (first | exact Below.refl _ _ | exact HB.out | apply Below.setCell | apply Below.alloc | apply Below.drew)
    all_goals (try simp)
    all_goals (try omega)
  · have e : binC 1 k s k' s' = 0 := bin_no (.inl ⟨rfl, rfl⟩) (.inr (.inl (by simpa using h2)))
    rw [e]
    have HP : Hid (Calls Tryz.prog 36 #[.int .i64 1] (((w.alloc (.cells #[.int .i64 k, .string s] 24)).alloc (.cells #[.int .i64 k', .string s'] 24)).alloc (.cells #[.int .i64 0, .string ⟨#[]⟩] 24)) fun e V => e = .returned (tyv 1 ⟨#[]⟩) ∧ S3 w k s k' s' V) := Lib.hid ((plain_any 1 _).mono fun e V hq => ⟨hq.1, (S3.start w k s k' s').keep hq.2⟩)
    have HP2 : Hid (∀ V, S3 w k s k' s' V → Calls Tryz.prog 36 #[.int .i64 2] V fun e V' => e = .returned (tyv 2 ⟨#[]⟩) ∧ S3 w k s k' s' V') := Lib.hid fun V hV => (plain_any 2 V).mono fun e V' hq => ⟨hq.1, hV.keep hq.2⟩
    go_enter Tryz.func27, Tryz.ntmps27
    go_wp2_with fail
    refine HP.out.mono ?_
    rintro e V0 ⟨rfl, hS⟩
    go_wp2_with fail
    refine (HP2.out V0 hS).mono ?_
    rintro e V ⟨rfl, hS⟩
    obtain ⟨z, a0, a1, c0, c1, hr, hb⟩ := hS
    obtain ⟨r0, r1, rf⟩ := box2 hr
    have rf0 := rf 0
    have rf1 := rf 1
    have HB := Lib.hid hb
    obtain ⟨z0, z1, n0, n1, n2, m0, m1, m2, k0, k1, k2, y0, y1, y2, y3, y4, y5⟩ := far z
    clear hS hr hb rf
    go_wp2
    go_region
    go_wp2
    go_region
    go_wp2
    refine bodyPost_ret (v := .tuple #[tyv 0 ⟨#[]⟩, .bool false]) (by simp [results, Tryz.results27, go_sem, z, z0, z1, n0, n1, n2, m0, m1, m2, k0, k1, k2, y0, y1, y2, y3, y4, y5, r0, r1, rf0, rf1]) rfl ⟨rfl, ?_⟩
    repeat' (first | exact Below.refl _ _ | exact HB.out | apply Below.setCell | apply Below.alloc | apply Below.drew)
    all_goals (try simp)
    all_goals (try omega)
  · have e : binC 1 k s k' s' = 0 := bin_no (.inl ⟨rfl, rfl⟩) (.inr (.inr (.inl (by simpa using h3))))
    rw [e]
    have HP : Hid (Calls Tryz.prog 36 #[.int .i64 1] (((w.alloc (.cells #[.int .i64 k, .string s] 24)).alloc (.cells #[.int .i64 k', .string s'] 24)).alloc (.cells #[.int .i64 0, .string ⟨#[]⟩] 24)) fun e V => e = .returned (tyv 1 ⟨#[]⟩) ∧ S3 w k s k' s' V) := Lib.hid ((plain_any 1 _).mono fun e V hq => ⟨hq.1, (S3.start w k s k' s').keep hq.2⟩)
    have HP2 : Hid (∀ V, S3 w k s k' s' V → Calls Tryz.prog 36 #[.int .i64 2] V fun e V' => e = .returned (tyv 2 ⟨#[]⟩) ∧ S3 w k s k' s' V') := Lib.hid fun V hV => (plain_any 2 V).mono fun e V' hq => ⟨hq.1, hV.keep hq.2⟩
    go_enter Tryz.func27, Tryz.ntmps27
    go_wp2_with fail
    refine HP.out.mono ?_
    rintro e V0 ⟨rfl, hS⟩
    go_wp2_with fail
    refine (HP2.out V0 hS).mono ?_
    rintro e V ⟨rfl, hS⟩
    obtain ⟨z, a0, a1, c0, c1, hr, hb⟩ := hS
    obtain ⟨r0, r1, rf⟩ := box2 hr
    have rf0 := rf 0
    have rf1 := rf 1
    have HB := Lib.hid hb
    obtain ⟨z0, z1, n0, n1, n2, m0, m1, m2, k0, k1, k2, y0, y1, y2, y3, y4, y5⟩ := far z
    clear hS hr hb rf
    go_wp2
    go_region
    go_wp2
    go_region
    go_wp2
    refine bodyPost_ret (v := .tuple #[tyv 0 ⟨#[]⟩, .bool false]) (by simp [results, Tryz.results27, go_sem, z, z0, z1, n0, n1, n2, m0, m1, m2, k0, k1, k2, y0, y1, y2, y3, y4, y5, r0, r1, rf0, rf1]) rfl ⟨rfl, ?_⟩
    repeat' (first | exact Below.refl _ _ | exact HB.out | apply Below.setCell | apply Below.alloc | apply Below.drew)
    all_goals (try simp)
    all_goals (try omega)
  · have e : binC 1 k s k' s' = 0 := bin_no (.inl ⟨rfl, rfl⟩) (.inr (.inr (.inr (by simpa using h4))))
    rw [e]
    have HP : Hid (Calls Tryz.prog 36 #[.int .i64 1] (((w.alloc (.cells #[.int .i64 k, .string s] 24)).alloc (.cells #[.int .i64 k', .string s'] 24)).alloc (.cells #[.int .i64 0, .string ⟨#[]⟩] 24)) fun e V => e = .returned (tyv 1 ⟨#[]⟩) ∧ S3 w k s k' s' V) := Lib.hid ((plain_any 1 _).mono fun e V hq => ⟨hq.1, (S3.start w k s k' s').keep hq.2⟩)
    have HP2 : Hid (∀ V, S3 w k s k' s' V → Calls Tryz.prog 36 #[.int .i64 2] V fun e V' => e = .returned (tyv 2 ⟨#[]⟩) ∧ S3 w k s k' s' V') := Lib.hid fun V hV => (plain_any 2 V).mono fun e V' hq => ⟨hq.1, hV.keep hq.2⟩
    go_enter Tryz.func27, Tryz.ntmps27
    go_wp2_with fail
    refine HP.out.mono ?_
    rintro e V0 ⟨rfl, hS⟩
    go_wp2_with fail
    refine (HP2.out V0 hS).mono ?_
    rintro e V ⟨rfl, hS⟩
    obtain ⟨z, a0, a1, c0, c1, hr, hb⟩ := hS
    obtain ⟨r0, r1, rf⟩ := box2 hr
    have rf0 := rf 0
    have rf1 := rf 1
    have HB := Lib.hid hb
    obtain ⟨z0, z1, n0, n1, n2, m0, m1, m2, k0, k1, k2, y0, y1, y2, y3, y4, y5⟩ := far z
    clear hS hr hb rf
    go_wp2
    go_region
    go_wp2
    go_region
    go_wp2
    refine bodyPost_ret (v := .tuple #[tyv 0 ⟨#[]⟩, .bool false]) (by simp [results, Tryz.results27, go_sem, z, z0, z1, n0, n1, n2, m0, m1, m2, k0, k1, k2, y0, y1, y2, y3, y4, y5, r0, r1, rf0, rf1]) rfl ⟨rfl, ?_⟩
    repeat' (first | exact Below.refl _ _ | exact HB.out | apply Below.setCell | apply Below.alloc | apply Below.drew)
    all_goals (try simp)
    all_goals (try omega)
set_option maxRecDepth 100000 in
set_option maxHeartbeats 4000000 in
theorem ybin_45 (k : Int) (s : ByteArray) (k' : Int) (s' : ByteArray) (w : World) (hm : s.size ≤ maxLen) (hm' : s'.size ≤ maxLen) (hG : Glob w) :
    Calls Tryz.prog 27 #[.string ⟨#[45]⟩, tyv k s, tyv k' s'] w fun e w' => e = .returned (.tuple #[tyv (binC 1 k s k' s') ⟨#[]⟩, .bool (decide (binC 1 k s k' s' ≠ 0))]) ∧ Below w.heap.size w w' := by
  clear hm hm' hG
  rcases int_cases k k' s s' with ⟨h1, h2, h3, h4⟩ | h1 | ⟨h1, h2⟩ | ⟨h1, h2, h3⟩ | ⟨h1, h2, h3, h4⟩
  · have e : binC 1 k s k' s' = 1 := bin_yes (.inl ⟨rfl, rfl, rfl⟩) (by simpa using h1) (by simpa using h2) (by simpa using h3) (by simpa using h4)
    rw [e]
    have HP : Hid (Calls Tryz.prog 36 #[.int .i64 1] (((w.alloc (.cells #[.int .i64 k, .string s] 24)).alloc (.cells #[.int .i64 k', .string s'] 24)).alloc (.cells #[.int .i64 0, .string ⟨#[]⟩] 24)) fun e V => e = .returned (tyv 1 ⟨#[]⟩) ∧ S3 w k s k' s' V) := Lib.hid ((plain_any 1 _).mono fun e V hq => ⟨hq.1, (S3.start w k s k' s').keep hq.2⟩)
    have HP2 : Hid (∀ V, S3 w k s k' s' V → Calls Tryz.prog 36 #[.int .i64 2] V fun e V' => e = .returned (tyv 2 ⟨#[]⟩) ∧ S3 w k s k' s' V') := Lib.hid fun V hV => (plain_any 2 V).mono fun e V' hq => ⟨hq.1, hV.keep hq.2⟩
    go_enter Tryz.func27, Tryz.ntmps27
    go_wp2_with fail
    refine HP.out.mono ?_
    rintro e V0 ⟨rfl, hS⟩
    go_wp2_with fail
    refine (HP2.out V0 hS).mono ?_
    rintro e V ⟨rfl, hS⟩
    obtain ⟨z, a0, a1, c0, c1, hr, hb⟩ := hS
    obtain ⟨r0, r1, rf⟩ := box2 hr
    have rf0 := rf 0
    have rf1 := rf 1
    have HB := Lib.hid hb
    obtain ⟨z0, z1, n0, n1, n2, m0, m1, m2, k0, k1, k2, y0, y1, y2, y3, y4, y5⟩ := far z
    clear hS hr hb rf
    go_wp2
    go_region
    go_wp2
    go_region
    go_wp2
    refine bodyPost_ret (v := .tuple #[tyv 1 ⟨#[]⟩, .bool true]) (by simp [results, Tryz.results27, go_sem, z, z0, z1, n0, n1, n2, m0, m1, m2, k0, k1, k2, y0, y1, y2, y3, y4, y5, r0, r1, rf0, rf1]) rfl ⟨rfl, ?_⟩
    repeat' (first | exact Below.refl _ _ | exact HB.out | apply Below.setCell | apply Below.alloc | apply Below.drew)
    all_goals (try simp)
    all_goals (try omega)
  · have e : binC 1 k s k' s' = 0 := bin_no (.inl ⟨rfl, rfl⟩) (.inl (by simpa using h1))
    rw [e]
    have HP : Hid (Calls Tryz.prog 36 #[.int .i64 1] (((w.alloc (.cells #[.int .i64 k, .string s] 24)).alloc (.cells #[.int .i64 k', .string s'] 24)).alloc (.cells #[.int .i64 0, .string ⟨#[]⟩] 24)) fun e V => e = .returned (tyv 1 ⟨#[]⟩) ∧ S3 w k s k' s' V) := Lib.hid ((plain_any 1 _).mono fun e V hq => ⟨hq.1, (S3.start w k s k' s').keep hq.2⟩)
    have HP2 : Hid (∀ V, S3 w k s k' s' V → Calls Tryz.prog 36 #[.int .i64 2] V fun e V' => e = .returned (tyv 2 ⟨#[]⟩) ∧ S3 w k s k' s' V') := Lib.hid fun V hV => (plain_any 2 V).mono fun e V' hq => ⟨hq.1, hV.keep hq.2⟩
    go_enter Tryz.func27, Tryz.ntmps27
    go_wp2_with fail
    refine HP.out.mono ?_
    rintro e V0 ⟨rfl, hS⟩
    go_wp2_with fail
    refine (HP2.out V0 hS).mono ?_
    rintro e V ⟨rfl, hS⟩
    obtain ⟨z, a0, a1, c0, c1, hr, hb⟩ := hS
    obtain ⟨r0, r1, rf⟩ := box2 hr
    have rf0 := rf 0
    have rf1 := rf 1
    have HB := Lib.hid hb
    obtain ⟨z0, z1, n0, n1, n2, m0, m1, m2, k0, k1, k2, y0, y1, y2, y3, y4, y5⟩ := far z
    clear hS hr hb rf
    go_wp2
    go_region
    go_wp2
    go_region
    go_wp2
    refine bodyPost_ret (v := .tuple #[tyv 0 ⟨#[]⟩, .bool false]) (by simp [results, Tryz.results27, go_sem, z, z0, z1, n0, n1, n2, m0, m1, m2, k0, k1, k2, y0, y1, y2, y3, y4, y5, r0, r1, rf0, rf1]) rfl ⟨rfl, ?_⟩
    repeat' (first | exact Below.refl _ _ | exact HB.out | apply Below.setCell | apply Below.alloc | apply Below.drew)
    all_goals (try simp)
    all_goals (try omega)
  · have e : binC 1 k s k' s' = 0 := bin_no (.inl ⟨rfl, rfl⟩) (.inr (.inl (by simpa using h2)))
    rw [e]
    have HP : Hid (Calls Tryz.prog 36 #[.int .i64 1] (((w.alloc (.cells #[.int .i64 k, .string s] 24)).alloc (.cells #[.int .i64 k', .string s'] 24)).alloc (.cells #[.int .i64 0, .string ⟨#[]⟩] 24)) fun e V => e = .returned (tyv 1 ⟨#[]⟩) ∧ S3 w k s k' s' V) := Lib.hid ((plain_any 1 _).mono fun e V hq => ⟨hq.1, (S3.start w k s k' s').keep hq.2⟩)
    have HP2 : Hid (∀ V, S3 w k s k' s' V → Calls Tryz.prog 36 #[.int .i64 2] V fun e V' => e = .returned (tyv 2 ⟨#[]⟩) ∧ S3 w k s k' s' V') := Lib.hid fun V hV => (plain_any 2 V).mono fun e V' hq => ⟨hq.1, hV.keep hq.2⟩
    go_enter Tryz.func27, Tryz.ntmps27
    go_wp2_with fail
    refine HP.out.mono ?_
    rintro e V0 ⟨rfl, hS⟩
    go_wp2_with fail
    refine (HP2.out V0 hS).mono ?_
    rintro e V ⟨rfl, hS⟩
    obtain ⟨z, a0, a1, c0, c1, hr, hb⟩ := hS
    obtain ⟨r0, r1, rf⟩ := box2 hr
    have rf0 := rf 0
    have rf1 := rf 1
    have HB := Lib.hid hb
    obtain ⟨z0, z1, n0, n1, n2, m0, m1, m2, k0, k1, k2, y0, y1, y2, y3, y4, y5⟩ := far z
    clear hS hr hb rf
    go_wp2
    go_region
    go_wp2
    go_region
    go_wp2
    refine bodyPost_ret (v := .tuple #[tyv 0 ⟨#[]⟩, .bool false]) (by simp [results, Tryz.results27, go_sem, z, z0, z1, n0, n1, n2, m0, m1, m2, k0, k1, k2, y0, y1, y2, y3, y4, y5, r0, r1, rf0, rf1]) rfl ⟨rfl, ?_⟩
    repeat' (first | exact Below.refl _ _ | exact HB.out | apply Below.setCell | apply Below.alloc | apply Below.drew)
    all_goals (try simp)
    all_goals (try omega)
  · have e : binC 1 k s k' s' = 0 := bin_no (.inl ⟨rfl, rfl⟩) (.inr (.inr (.inl (by simpa using h3))))
    rw [e]
    have HP : Hid (Calls Tryz.prog 36 #[.int .i64 1] (((w.alloc (.cells #[.int .i64 k, .string s] 24)).alloc (.cells #[.int .i64 k', .string s'] 24)).alloc (.cells #[.int .i64 0, .string ⟨#[]⟩] 24)) fun e V => e = .returned (tyv 1 ⟨#[]⟩) ∧ S3 w k s k' s' V) := Lib.hid ((plain_any 1 _).mono fun e V hq => ⟨hq.1, (S3.start w k s k' s').keep hq.2⟩)
    have HP2 : Hid (∀ V, S3 w k s k' s' V → Calls Tryz.prog 36 #[.int .i64 2] V fun e V' => e = .returned (tyv 2 ⟨#[]⟩) ∧ S3 w k s k' s' V') := Lib.hid fun V hV => (plain_any 2 V).mono fun e V' hq => ⟨hq.1, hV.keep hq.2⟩
    go_enter Tryz.func27, Tryz.ntmps27
    go_wp2_with fail
    refine HP.out.mono ?_
    rintro e V0 ⟨rfl, hS⟩
    go_wp2_with fail
    refine (HP2.out V0 hS).mono ?_
    rintro e V ⟨rfl, hS⟩
    obtain ⟨z, a0, a1, c0, c1, hr, hb⟩ := hS
    obtain ⟨r0, r1, rf⟩ := box2 hr
    have rf0 := rf 0
    have rf1 := rf 1
    have HB := Lib.hid hb
    obtain ⟨z0, z1, n0, n1, n2, m0, m1, m2, k0, k1, k2, y0, y1, y2, y3, y4, y5⟩ := far z
    clear hS hr hb rf
    go_wp2
    go_region
    go_wp2
    go_region
    go_wp2
    refine bodyPost_ret (v := .tuple #[tyv 0 ⟨#[]⟩, .bool false]) (by simp [results, Tryz.results27, go_sem, z, z0, z1, n0, n1, n2, m0, m1, m2, k0, k1, k2, y0, y1, y2, y3, y4, y5, r0, r1, rf0, rf1]) rfl ⟨rfl, ?_⟩
    repeat' (first | exact Below.refl _ _ | exact HB.out | apply Below.setCell | apply Below.alloc | apply Below.drew)
    all_goals (try simp)
    all_goals (try omega)
  · have e : binC 1 k s k' s' = 0 := bin_no (.inl ⟨rfl, rfl⟩) (.inr (.inr (.inr (by simpa using h4))))
    rw [e]
    have HP : Hid (Calls Tryz.prog 36 #[.int .i64 1] (((w.alloc (.cells #[.int .i64 k, .string s] 24)).alloc (.cells #[.int .i64 k', .string s'] 24)).alloc (.cells #[.int .i64 0, .string ⟨#[]⟩] 24)) fun e V => e = .returned (tyv 1 ⟨#[]⟩) ∧ S3 w k s k' s' V) := Lib.hid ((plain_any 1 _).mono fun e V hq => ⟨hq.1, (S3.start w k s k' s').keep hq.2⟩)
    have HP2 : Hid (∀ V, S3 w k s k' s' V → Calls Tryz.prog 36 #[.int .i64 2] V fun e V' => e = .returned (tyv 2 ⟨#[]⟩) ∧ S3 w k s k' s' V') := Lib.hid fun V hV => (plain_any 2 V).mono fun e V' hq => ⟨hq.1, hV.keep hq.2⟩
    go_enter Tryz.func27, Tryz.ntmps27
    go_wp2_with fail
    refine HP.out.mono ?_
    rintro e V0 ⟨rfl, hS⟩
    go_wp2_with fail
    refine (HP2.out V0 hS).mono ?_
    rintro e V ⟨rfl, hS⟩
    obtain ⟨z, a0, a1, c0, c1, hr, hb⟩ := hS
    obtain ⟨r0, r1, rf⟩ := box2 hr
    have rf0 := rf 0
    have rf1 := rf 1
    have HB := Lib.hid hb
    obtain ⟨z0, z1, n0, n1, n2, m0, m1, m2, k0, k1, k2, y0, y1, y2, y3, y4, y5⟩ := far z
    clear hS hr hb rf
    go_wp2
    go_region
    go_wp2
    go_region
    go_wp2
    refine bodyPost_ret (v := .tuple #[tyv 0 ⟨#[]⟩, .bool false]) (by simp [results, Tryz.results27, go_sem, z, z0, z1, n0, n1, n2, m0, m1, m2, k0, k1, k2, y0, y1, y2, y3, y4, y5, r0, r1, rf0, rf1]) rfl ⟨rfl, ?_⟩
    repeat' (first | exact Below.refl _ _ | exact HB.out | apply Below.setCell | apply Below.alloc | apply Below.drew)
    all_goals (try simp)
    all_goals (try omega)
set_option maxRecDepth 100000 in
set_option maxHeartbeats 4000000 in
theorem ybin_42 (k : Int) (s : ByteArray) (k' : Int) (s' : ByteArray) (w : World) (hm : s.size ≤ maxLen) (hm' : s'.size ≤ maxLen) (hG : Glob w) :
    Calls Tryz.prog 27 #[.string ⟨#[42]⟩, tyv k s, tyv k' s'] w fun e w' => e = .returned (.tuple #[tyv (binC 1 k s k' s') ⟨#[]⟩, .bool (decide (binC 1 k s k' s' ≠ 0))]) ∧ Below w.heap.size w w' := by
  clear hm hm' hG
  rcases int_cases k k' s s' with ⟨h1, h2, h3, h4⟩ | h1 | ⟨h1, h2⟩ | ⟨h1, h2, h3⟩ | ⟨h1, h2, h3, h4⟩
  · have e : binC 1 k s k' s' = 1 := bin_yes (.inl ⟨rfl, rfl, rfl⟩) (by simpa using h1) (by simpa using h2) (by simpa using h3) (by simpa using h4)
    rw [e]
    have HP : Hid (Calls Tryz.prog 36 #[.int .i64 1] (((w.alloc (.cells #[.int .i64 k, .string s] 24)).alloc (.cells #[.int .i64 k', .string s'] 24)).alloc (.cells #[.int .i64 0, .string ⟨#[]⟩] 24)) fun e V => e = .returned (tyv 1 ⟨#[]⟩) ∧ S3 w k s k' s' V) := Lib.hid ((plain_any 1 _).mono fun e V hq => ⟨hq.1, (S3.start w k s k' s').keep hq.2⟩)
    have HP2 : Hid (∀ V, S3 w k s k' s' V → Calls Tryz.prog 36 #[.int .i64 2] V fun e V' => e = .returned (tyv 2 ⟨#[]⟩) ∧ S3 w k s k' s' V') := Lib.hid fun V hV => (plain_any 2 V).mono fun e V' hq => ⟨hq.1, hV.keep hq.2⟩
    go_enter Tryz.func27, Tryz.ntmps27
    go_wp2_with fail
    refine HP.out.mono ?_
    rintro e V0 ⟨rfl, hS⟩
    go_wp2_with fail
    refine (HP2.out V0 hS).mono ?_
    rintro e V ⟨rfl, hS⟩
    obtain ⟨z, a0, a1, c0, c1, hr, hb⟩ := hS
    obtain ⟨r0, r1, rf⟩ := box2 hr
    have rf0 := rf 0
    have rf1 := rf 1
    have HB := Lib.hid hb
    obtain ⟨z0, z1, n0, n1, n2, m0, m1, m2, k0, k1, k2, y0, y1, y2, y3, y4, y5⟩ := far z
    clear hS hr hb rf
    go_wp2
    go_region
    go_wp2
    go_region
    go_wp2
    refine bodyPost_ret (v := .tuple #[tyv 1 ⟨#[]⟩, .bool true]) (by simp [results, Tryz.results27, go_sem, z, z0, z1, n0, n1, n2, m0, m1, m2, k0, k1, k2, y0, y1, y2, y3, y4, y5, r0, r1, rf0, rf1]) rfl ⟨rfl, ?_⟩
    repeat' (first | exact Below.refl _ _ | exact HB.out | apply Below.setCell | apply Below.alloc | apply Below.drew)
    all_goals (try simp)
    all_goals (try omega)
  · have e : binC 1 k s k' s' = 0 := bin_no (.inl ⟨rfl, rfl⟩) (.inl (by simpa using h1))
    rw [e]
    have HP : Hid (Calls Tryz.prog 36 #[.int .i64 1] (((w.alloc (.cells #[.int .i64 k, .string s] 24)).alloc (.cells #[.int .i64 k', .string s'] 24)).alloc (.cells #[.int .i64 0, .string ⟨#[]⟩] 24)) fun e V => e = .returned (tyv 1 ⟨#[]⟩) ∧ S3 w k s k' s' V) := Lib.hid ((plain_any 1 _).mono fun e V hq => ⟨hq.1, (S3.start w k s k' s').keep hq.2⟩)
    have HP2 : Hid (∀ V, S3 w k s k' s' V → Calls Tryz.prog 36 #[.int .i64 2] V fun e V' => e = .returned (tyv 2 ⟨#[]⟩) ∧ S3 w k s k' s' V') := Lib.hid fun V hV => (plain_any 2 V).mono fun e V' hq => ⟨hq.1, hV.keep hq.2⟩
    go_enter Tryz.func27, Tryz.ntmps27
    go_wp2_with fail
    refine HP.out.mono ?_
    rintro e V0 ⟨rfl, hS⟩
    go_wp2_with fail
    refine (HP2.out V0 hS).mono ?_
    rintro e V ⟨rfl, hS⟩
    obtain ⟨z, a0, a1, c0, c1, hr, hb⟩ := hS
    obtain ⟨r0, r1, rf⟩ := box2 hr
    have rf0 := rf 0
    have rf1 := rf 1
    have HB := Lib.hid hb
    obtain ⟨z0, z1, n0, n1, n2, m0, m1, m2, k0, k1, k2, y0, y1, y2, y3, y4, y5⟩ := far z
    clear hS hr hb rf
    go_wp2
    go_region
    go_wp2
    go_region
    go_wp2
    refine bodyPost_ret (v := .tuple #[tyv 0 ⟨#[]⟩, .bool false]) (by simp [results, Tryz.results27, go_sem, z, z0, z1, n0, n1, n2, m0, m1, m2, k0, k1, k2, y0, y1, y2, y3, y4, y5, r0, r1, rf0, rf1]) rfl ⟨rfl, ?_⟩
    repeat' (first | exact Below.refl _ _ | exact HB.out | apply Below.setCell | apply Below.alloc | apply Below.drew)
    all_goals (try simp)
    all_goals (try omega)
  · have e : binC 1 k s k' s' = 0 := bin_no (.inl ⟨rfl, rfl⟩) (.inr (.inl (by simpa using h2)))
    rw [e]
    have HP : Hid (Calls Tryz.prog 36 #[.int .i64 1] (((w.alloc (.cells #[.int .i64 k, .string s] 24)).alloc (.cells #[.int .i64 k', .string s'] 24)).alloc (.cells #[.int .i64 0, .string ⟨#[]⟩] 24)) fun e V => e = .returned (tyv 1 ⟨#[]⟩) ∧ S3 w k s k' s' V) := Lib.hid ((plain_any 1 _).mono fun e V hq => ⟨hq.1, (S3.start w k s k' s').keep hq.2⟩)
    have HP2 : Hid (∀ V, S3 w k s k' s' V → Calls Tryz.prog 36 #[.int .i64 2] V fun e V' => e = .returned (tyv 2 ⟨#[]⟩) ∧ S3 w k s k' s' V') := Lib.hid fun V hV => (plain_any 2 V).mono fun e V' hq => ⟨hq.1, hV.keep hq.2⟩
    go_enter Tryz.func27, Tryz.ntmps27
    go_wp2_with fail
    refine HP.out.mono ?_
    rintro e V0 ⟨rfl, hS⟩
    go_wp2_with fail
    refine (HP2.out V0 hS).mono ?_
    rintro e V ⟨rfl, hS⟩
    obtain ⟨z, a0, a1, c0, c1, hr, hb⟩ := hS
    obtain ⟨r0, r1, rf⟩ := box2 hr
    have rf0 := rf 0
    have rf1 := rf 1
    have HB := Lib.hid hb
    obtain ⟨z0, z1, n0, n1, n2, m0, m1, m2, k0, k1, k2, y0, y1, y2, y3, y4, y5⟩ := far z
    clear hS hr hb rf
    go_wp2
    go_region
    go_wp2
    go_region
    go_wp2
    refine bodyPost_ret (v := .tuple #[tyv 0 ⟨#[]⟩, .bool false]) (by simp [results, Tryz.results27, go_sem, z, z0, z1, n0, n1, n2, m0, m1, m2, k0, k1, k2, y0, y1, y2, y3, y4, y5, r0, r1, rf0, rf1]) rfl ⟨rfl, ?_⟩
    repeat' (first | exact Below.refl _ _ | exact HB.out | apply Below.setCell | apply Below.alloc | apply Below.drew)
    all_goals (try simp)
    all_goals (try omega)
  · have e : binC 1 k s k' s' = 0 := bin_no (.inl ⟨rfl, rfl⟩) (.inr (.inr (.inl (by simpa using h3))))
    rw [e]
    have HP : Hid (Calls Tryz.prog 36 #[.int .i64 1] (((w.alloc (.cells #[.int .i64 k, .string s] 24)).alloc (.cells #[.int .i64 k', .string s'] 24)).alloc (.cells #[.int .i64 0, .string ⟨#[]⟩] 24)) fun e V => e = .returned (tyv 1 ⟨#[]⟩) ∧ S3 w k s k' s' V) := Lib.hid ((plain_any 1 _).mono fun e V hq => ⟨hq.1, (S3.start w k s k' s').keep hq.2⟩)
    have HP2 : Hid (∀ V, S3 w k s k' s' V → Calls Tryz.prog 36 #[.int .i64 2] V fun e V' => e = .returned (tyv 2 ⟨#[]⟩) ∧ S3 w k s k' s' V') := Lib.hid fun V hV => (plain_any 2 V).mono fun e V' hq => ⟨hq.1, hV.keep hq.2⟩
    go_enter Tryz.func27, Tryz.ntmps27
    go_wp2_with fail
    refine HP.out.mono ?_
    rintro e V0 ⟨rfl, hS⟩
    go_wp2_with fail
    refine (HP2.out V0 hS).mono ?_
    rintro e V ⟨rfl, hS⟩
    obtain ⟨z, a0, a1, c0, c1, hr, hb⟩ := hS
    obtain ⟨r0, r1, rf⟩ := box2 hr
    have rf0 := rf 0
    have rf1 := rf 1
    have HB := Lib.hid hb
    obtain ⟨z0, z1, n0, n1, n2, m0, m1, m2, k0, k1, k2, y0, y1, y2, y3, y4, y5⟩ := far z
    clear hS hr hb rf
    go_wp2
    go_region
    go_wp2
    go_region
    go_wp2
    refine bodyPost_ret (v := .tuple #[tyv 0 ⟨#[]⟩, .bool false]) (by simp [results, Tryz.results27, go_sem, z, z0, z1, n0, n1, n2, m0, m1, m2, k0, k1, k2, y0, y1, y2, y3, y4, y5, r0, r1, rf0, rf1]) rfl ⟨rfl, ?_⟩
    repeat' (first | exact Below.refl _ _ | exact HB.out | apply Below.setCell | apply Below.alloc | apply Below.drew)
    all_goals (try simp)
    all_goals (try omega)
  · have e : binC 1 k s k' s' = 0 := bin_no (.inl ⟨rfl, rfl⟩) (.inr (.inr (.inr (by simpa using h4))))
    rw [e]
    have HP : Hid (Calls Tryz.prog 36 #[.int .i64 1] (((w.alloc (.cells #[.int .i64 k, .string s] 24)).alloc (.cells #[.int .i64 k', .string s'] 24)).alloc (.cells #[.int .i64 0, .string ⟨#[]⟩] 24)) fun e V => e = .returned (tyv 1 ⟨#[]⟩) ∧ S3 w k s k' s' V) := Lib.hid ((plain_any 1 _).mono fun e V hq => ⟨hq.1, (S3.start w k s k' s').keep hq.2⟩)
    have HP2 : Hid (∀ V, S3 w k s k' s' V → Calls Tryz.prog 36 #[.int .i64 2] V fun e V' => e = .returned (tyv 2 ⟨#[]⟩) ∧ S3 w k s k' s' V') := Lib.hid fun V hV => (plain_any 2 V).mono fun e V' hq => ⟨hq.1, hV.keep hq.2⟩
    go_enter Tryz.func27, Tryz.ntmps27
    go_wp2_with fail
    refine HP.out.mono ?_
    rintro e V0 ⟨rfl, hS⟩
    go_wp2_with fail
    refine (HP2.out V0 hS).mono ?_
    rintro e V ⟨rfl, hS⟩
    obtain ⟨z, a0, a1, c0, c1, hr, hb⟩ := hS
    obtain ⟨r0, r1, rf⟩ := box2 hr
    have rf0 := rf 0
    have rf1 := rf 1
    have HB := Lib.hid hb
    obtain ⟨z0, z1, n0, n1, n2, m0, m1, m2, k0, k1, k2, y0, y1, y2, y3, y4, y5⟩ := far z
    clear hS hr hb rf
    go_wp2
    go_region
    go_wp2
    go_region
    go_wp2
    refine bodyPost_ret (v := .tuple #[tyv 0 ⟨#[]⟩, .bool false]) (by simp [results, Tryz.results27, go_sem, z, z0, z1, n0, n1, n2, m0, m1, m2, k0, k1, k2, y0, y1, y2, y3, y4, y5, r0, r1, rf0, rf1]) rfl ⟨rfl, ?_⟩
    repeat' (first | exact Below.refl _ _ | exact HB.out | apply Below.setCell | apply Below.alloc | apply Below.drew)
    all_goals (try simp)
    all_goals (try omega)
set_option maxRecDepth 100000 in
set_option maxHeartbeats 4000000 in
theorem ybin_47 (k : Int) (s : ByteArray) (k' : Int) (s' : ByteArray) (w : World) (hm : s.size ≤ maxLen) (hm' : s'.size ≤ maxLen) (hG : Glob w) :
    Calls Tryz.prog 27 #[.string ⟨#[47]⟩, tyv k s, tyv k' s'] w fun e w' => e = .returned (.tuple #[tyv (binC 1 k s k' s') ⟨#[]⟩, .bool (decide (binC 1 k s k' s' ≠ 0))]) ∧ Below w.heap.size w w' := by
  clear hm hm' hG
  rcases int_cases k k' s s' with ⟨h1, h2, h3, h4⟩ | h1 | ⟨h1, h2⟩ | ⟨h1, h2, h3⟩ | ⟨h1, h2, h3, h4⟩
  · have e : binC 1 k s k' s' = 1 := bin_yes (.inl ⟨rfl, rfl, rfl⟩) (by simpa using h1) (by simpa using h2) (by simpa using h3) (by simpa using h4)
    rw [e]
    have HP : Hid (Calls Tryz.prog 36 #[.int .i64 1] (((w.alloc (.cells #[.int .i64 k, .string s] 24)).alloc (.cells #[.int .i64 k', .string s'] 24)).alloc (.cells #[.int .i64 0, .string ⟨#[]⟩] 24)) fun e V => e = .returned (tyv 1 ⟨#[]⟩) ∧ S3 w k s k' s' V) := Lib.hid ((plain_any 1 _).mono fun e V hq => ⟨hq.1, (S3.start w k s k' s').keep hq.2⟩)
    have HP2 : Hid (∀ V, S3 w k s k' s' V → Calls Tryz.prog 36 #[.int .i64 2] V fun e V' => e = .returned (tyv 2 ⟨#[]⟩) ∧ S3 w k s k' s' V') := Lib.hid fun V hV => (plain_any 2 V).mono fun e V' hq => ⟨hq.1, hV.keep hq.2⟩
    go_enter Tryz.func27, Tryz.ntmps27
    go_wp2_with fail
    refine HP.out.mono ?_
    rintro e V0 ⟨rfl, hS⟩
    go_wp2_with fail
    refine (HP2.out V0 hS).mono ?_
    rintro e V ⟨rfl, hS⟩
    obtain ⟨z, a0, a1, c0, c1, hr, hb⟩ := hS
    obtain ⟨r0, r1, rf⟩ := box2 hr
    have rf0 := rf 0
    have rf1 := rf 1
    have HB := Lib.hid hb
    obtain ⟨z0, z1, n0, n1, n2, m0, m1, m2, k0, k1, k2, y0, y1, y2, y3, y4, y5⟩ := far z
    clear hS hr hb rf
    go_wp2
    go_region
    go_wp2
    go_region
    go_wp2
    refine bodyPost_ret (v := .tuple #[tyv 1 ⟨#[]⟩, .bool true]) (by simp [results, Tryz.results27, go_sem, z, z0, z1, n0, n1, n2, m0, m1, m2, k0, k1, k2, y0, y1, y2, y3, y4, y5, r0, r1, rf0, rf1]) rfl ⟨rfl, ?_⟩
    repeat' (first | exact Below.refl _ _ | exact HB.out | apply Below.setCell | apply Below.alloc | apply Below.drew)
    all_goals (try simp)
    all_goals (try omega)
  · have e : binC 1 k s k' s' = 0 := bin_no (.inl ⟨rfl, rfl⟩) (.inl (by simpa using h1))
    rw [e]
    have HP : Hid (Calls Tryz.prog 36 #[.int .i64 1] (((w.alloc (.cells #[.int .i64 k, .string s] 24)).alloc (.cells #[.int .i64 k', .string s'] 24)).alloc (.cells #[.int .i64 0, .string ⟨#[]⟩] 24)) fun e V => e = .returned (tyv 1 ⟨#[]⟩) ∧ S3 w k s k' s' V) := Lib.hid ((plain_any 1 _).mono fun e V hq => ⟨hq.1, (S3.start w k s k' s').keep hq.2⟩)
    have HP2 : Hid (∀ V, S3 w k s k' s' V → Calls Tryz.prog 36 #[.int .i64 2] V fun e V' => e = .returned (tyv 2 ⟨#[]⟩) ∧ S3 w k s k' s' V') := Lib.hid fun V hV => (plain_any 2 V).mono fun e V' hq => ⟨hq.1, hV.keep hq.2⟩
    go_enter Tryz.func27, Tryz.ntmps27
    go_wp2_with fail
    refine HP.out.mono ?_
    rintro e V0 ⟨rfl, hS⟩
    go_wp2_with fail
    refine (HP2.out V0 hS).mono ?_
    rintro e V ⟨rfl, hS⟩
    obtain ⟨z, a0, a1, c0, c1, hr, hb⟩ := hS
    obtain ⟨r0, r1, rf⟩ := box2 hr
    have rf0 := rf 0
    have rf1 := rf 1
    have HB := Lib.hid hb
    obtain ⟨z0, z1, n0, n1, n2, m0, m1, m2, k0, k1, k2, y0, y1, y2, y3, y4, y5⟩ := far z
    clear hS hr hb rf
    go_wp2
    go_region
    go_wp2
    go_region
    go_wp2
    refine bodyPost_ret (v := .tuple #[tyv 0 ⟨#[]⟩, .bool false]) (by simp [results, Tryz.results27, go_sem, z, z0, z1, n0, n1, n2, m0, m1, m2, k0, k1, k2, y0, y1, y2, y3, y4, y5, r0, r1, rf0, rf1]) rfl ⟨rfl, ?_⟩
    repeat' (first | exact Below.refl _ _ | exact HB.out | apply Below.setCell | apply Below.alloc | apply Below.drew)
    all_goals (try simp)
    all_goals (try omega)
  · have e : binC 1 k s k' s' = 0 := bin_no (.inl ⟨rfl, rfl⟩) (.inr (.inl (by simpa using h2)))
    rw [e]
    have HP : Hid (Calls Tryz.prog 36 #[.int .i64 1] (((w.alloc (.cells #[.int .i64 k, .string s] 24)).alloc (.cells #[.int .i64 k', .string s'] 24)).alloc (.cells #[.int .i64 0, .string ⟨#[]⟩] 24)) fun e V => e = .returned (tyv 1 ⟨#[]⟩) ∧ S3 w k s k' s' V) := Lib.hid ((plain_any 1 _).mono fun e V hq => ⟨hq.1, (S3.start w k s k' s').keep hq.2⟩)
    have HP2 : Hid (∀ V, S3 w k s k' s' V → Calls Tryz.prog 36 #[.int .i64 2] V fun e V' => e = .returned (tyv 2 ⟨#[]⟩) ∧ S3 w k s k' s' V') := Lib.hid fun V hV => (plain_any 2 V).mono fun e V' hq => ⟨hq.1, hV.keep hq.2⟩
    go_enter Tryz.func27, Tryz.ntmps27
    go_wp2_with fail
    refine HP.out.mono ?_
    rintro e V0 ⟨rfl, hS⟩
    go_wp2_with fail
    refine (HP2.out V0 hS).mono ?_
    rintro e V ⟨rfl, hS⟩
    obtain ⟨z, a0, a1, c0, c1, hr, hb⟩ := hS
    obtain ⟨r0, r1, rf⟩ := box2 hr
    have rf0 := rf 0
    have rf1 := rf 1
    have HB := Lib.hid hb
    obtain ⟨z0, z1, n0, n1, n2, m0, m1, m2, k0, k1, k2, y0, y1, y2, y3, y4, y5⟩ := far z
    clear hS hr hb rf
    go_wp2
    go_region
    go_wp2
    go_region
    go_wp2
    refine bodyPost_ret (v := .tuple #[tyv 0 ⟨#[]⟩, .bool false]) (by simp [results, Tryz.results27, go_sem, z, z0, z1, n0, n1, n2, m0, m1, m2, k0, k1, k2, y0, y1, y2, y3, y4, y5, r0, r1, rf0, rf1]) rfl ⟨rfl, ?_⟩
    repeat' (first | exact Below.refl _ _ | exact HB.out | apply Below.setCell | apply Below.alloc | apply Below.drew)
    all_goals (try simp)
    all_goals (try omega)
  · have e : binC 1 k s k' s' = 0 := bin_no (.inl ⟨rfl, rfl⟩) (.inr (.inr (.inl (by simpa using h3))))
    rw [e]
    have HP : Hid (Calls Tryz.prog 36 #[.int .i64 1] (((w.alloc (.cells #[.int .i64 k, .string s] 24)).alloc (.cells #[.int .i64 k', .string s'] 24)).alloc (.cells #[.int .i64 0, .string ⟨#[]⟩] 24)) fun e V => e = .returned (tyv 1 ⟨#[]⟩) ∧ S3 w k s k' s' V) := Lib.hid ((plain_any 1 _).mono fun e V hq => ⟨hq.1, (S3.start w k s k' s').keep hq.2⟩)
    have HP2 : Hid (∀ V, S3 w k s k' s' V → Calls Tryz.prog 36 #[.int .i64 2] V fun e V' => e = .returned (tyv 2 ⟨#[]⟩) ∧ S3 w k s k' s' V') := Lib.hid fun V hV => (plain_any 2 V).mono fun e V' hq => ⟨hq.1, hV.keep hq.2⟩
    go_enter Tryz.func27, Tryz.ntmps27
    go_wp2_with fail
    refine HP.out.mono ?_
    rintro e V0 ⟨rfl, hS⟩
    go_wp2_with fail
    refine (HP2.out V0 hS).mono ?_
    rintro e V ⟨rfl, hS⟩
    obtain ⟨z, a0, a1, c0, c1, hr, hb⟩ := hS
    obtain ⟨r0, r1, rf⟩ := box2 hr
    have rf0 := rf 0
    have rf1 := rf 1
    have HB := Lib.hid hb
    obtain ⟨z0, z1, n0, n1, n2, m0, m1, m2, k0, k1, k2, y0, y1, y2, y3, y4, y5⟩ := far z
    clear hS hr hb rf
    go_wp2
    go_region
    go_wp2
    go_region
    go_wp2
    refine bodyPost_ret (v := .tuple #[tyv 0 ⟨#[]⟩, .bool false]) (by simp [results, Tryz.results27, go_sem, z, z0, z1, n0, n1, n2, m0, m1, m2, k0, k1, k2, y0, y1, y2, y3, y4, y5, r0, r1, rf0, rf1]) rfl ⟨rfl, ?_⟩
    repeat' (first | exact Below.refl _ _ | exact HB.out | apply Below.setCell | apply Below.alloc | apply Below.drew)
    all_goals (try simp)
    all_goals (try omega)
  · have e : binC 1 k s k' s' = 0 := bin_no (.inl ⟨rfl, rfl⟩) (.inr (.inr (.inr (by simpa using h4))))
    rw [e]
    have HP : Hid (Calls Tryz.prog 36 #[.int .i64 1] (((w.alloc (.cells #[.int .i64 k, .string s] 24)).alloc (.cells #[.int .i64 k', .string s'] 24)).alloc (.cells #[.int .i64 0, .string ⟨#[]⟩] 24)) fun e V => e = .returned (tyv 1 ⟨#[]⟩) ∧ S3 w k s k' s' V) := Lib.hid ((plain_any 1 _).mono fun e V hq => ⟨hq.1, (S3.start w k s k' s').keep hq.2⟩)
    have HP2 : Hid (∀ V, S3 w k s k' s' V → Calls Tryz.prog 36 #[.int .i64 2] V fun e V' => e = .returned (tyv 2 ⟨#[]⟩) ∧ S3 w k s k' s' V') := Lib.hid fun V hV => (plain_any 2 V).mono fun e V' hq => ⟨hq.1, hV.keep hq.2⟩
    go_enter Tryz.func27, Tryz.ntmps27
    go_wp2_with fail
    refine HP.out.mono ?_
    rintro e V0 ⟨rfl, hS⟩
    go_wp2_with fail
    refine (HP2.out V0 hS).mono ?_
    rintro e V ⟨rfl, hS⟩
    obtain ⟨z, a0, a1, c0, c1, hr, hb⟩ := hS
    obtain ⟨r0, r1, rf⟩ := box2 hr
    have rf0 := rf 0
    have rf1 := rf 1
    have HB := Lib.hid hb
    obtain ⟨z0, z1, n0, n1, n2, m0, m1, m2, k0, k1, k2, y0, y1, y2, y3, y4, y5⟩ := far z
    clear hS hr hb rf
    go_wp2
    go_region
    go_wp2
    go_region
    go_wp2
    refine bodyPost_ret (v := .tuple #[tyv 0 ⟨#[]⟩, .bool false]) (by simp [results, Tryz.results27, go_sem, z, z0, z1, n0, n1, n2, m0, m1, m2, k0, k1, k2, y0, y1, y2, y3, y4, y5, r0, r1, rf0, rf1]) rfl ⟨rfl, ?_⟩
    repeat' (first | exact Below.refl _ _ | exact HB.out | apply Below.setCell | apply Below.alloc | apply Below.drew)
    all_goals (try simp)
    all_goals (try omega)
set_option maxRecDepth 100000 in
set_option maxHeartbeats 4000000 in
theorem ybin_37 (k : Int) (s : ByteArray) (k' : Int) (s' : ByteArray) (w : World) (hm : s.size ≤ maxLen) (hm' : s'.size ≤ maxLen) (hG : Glob w) :
    Calls Tryz.prog 27 #[.string ⟨#[37]⟩, tyv k s, tyv k' s'] w fun e w' => e = .returned (.tuple #[tyv (binC 1 k s k' s') ⟨#[]⟩, .bool (decide (binC 1 k s k' s' ≠ 0))]) ∧ Below w.heap.size w w' := by
  clear hm hm' hG
  rcases int_cases k k' s s' with ⟨h1, h2, h3, h4⟩ | h1 | ⟨h1, h2⟩ | ⟨h1, h2, h3⟩ | ⟨h1, h2, h3, h4⟩
  · have e : binC 1 k s k' s' = 1 := bin_yes (.inl ⟨rfl, rfl, rfl⟩) (by simpa using h1) (by simpa using h2) (by simpa using h3) (by simpa using h4)
    rw [e]
    have HP : Hid (Calls Tryz.prog 36 #[.int .i64 1] (((w.alloc (.cells #[.int .i64 k, .string s] 24)).alloc (.cells #[.int .i64 k', .string s'] 24)).alloc (.cells #[.int .i64 0, .string ⟨#[]⟩] 24)) fun e V => e = .returned (tyv 1 ⟨#[]⟩) ∧ S3 w k s k' s' V) := Lib.hid ((plain_any 1 _).mono fun e V hq => ⟨hq.1, (S3.start w k s k' s').keep hq.2⟩)
    have HP2 : Hid (∀ V, S3 w k s k' s' V → Calls Tryz.prog 36 #[.int .i64 2] V fun e V' => e = .returned (tyv 2 ⟨#[]⟩) ∧ S3 w k s k' s' V') := Lib.hid fun V hV => (plain_any 2 V).mono fun e V' hq => ⟨hq.1, hV.keep hq.2⟩
    go_enter Tryz.func27, Tryz.ntmps27
    go_wp2_with fail
    refine HP.out.mono ?_
    rintro e V0 ⟨rfl, hS⟩
    go_wp2_with fail
    refine (HP2.out V0 hS).mono ?_
    rintro e V ⟨rfl, hS⟩
    obtain ⟨z, a0, a1, c0, c1, hr, hb⟩ := hS
    obtain ⟨r0, r1, rf⟩ := box2 hr
    have rf0 := rf 0
    have rf1 := rf 1
    have HB := Lib.hid hb
    obtain ⟨z0, z1, n0, n1, n2, m0, m1, m2, k0, k1, k2, y0, y1, y2, y3, y4, y5⟩ := far z
    clear hS hr hb rf
    go_wp2
    go_region
    go_wp2
    go_region
    go_wp2
    refine bodyPost_ret (v := .tuple #[tyv 1 ⟨#[]⟩, .bool true]) (by simp [results, Tryz.results27, go_sem, z, z0, z1, n0, n1, n2, m0, m1, m2, k0, k1, k2, y0, y1, y2, y3, y4, y5, r0, r1, rf0, rf1]) rfl ⟨rfl, ?_⟩
    repeat' (first | exact Below.refl _ _ | exact HB.out | apply Below.setCell | apply Below.alloc | apply Below.drew)
    all_goals (try simp)
    all_goals (try omega)
  · have e : binC 1 k s k' s' = 0 := bin_no (.inl ⟨rfl, rfl⟩) (.inl (by simpa using h1))
    rw [e]
    have HP : Hid (Calls Tryz.prog 36 #[.int .i64 1] (((w.alloc (.cells #[.int .i64 k, .string s] 24)).alloc (.cells #[.int .i64 k', .string s'] 24)).alloc (.cells #[.int .i64 0, .string ⟨#[]⟩] 24)) fun e V => e = .returned (tyv 1 ⟨#[]⟩) ∧ S3 w k s k' s' V) := Lib.hid ((plain_any 1 _).mono fun e V hq => ⟨hq.1, (S3.start w k s k' s').keep hq.2⟩)
    have HP2 : Hid (∀ V, S3 w k s k' s' V → Calls Tryz.prog 36 #[.int .i64 2] V fun e V' => e = .returned (tyv 2 ⟨#[]⟩) ∧ S3 w k s k' s' V') := Lib.hid fun V hV => (plain_any 2 V).mono fun e V' hq => ⟨hq.1, hV.keep hq.2⟩
    go_enter Tryz.func27, Tryz.ntmps27
    go_wp2_with fail
    refine HP.out.mono ?_
    rintro e V0 ⟨rfl, hS⟩
    go_wp2_with fail
    refine (HP2.out V0 hS).mono ?_
    rintro e V ⟨rfl, hS⟩
    obtain ⟨z, a0, a1, c0, c1, hr, hb⟩ := hS
    obtain ⟨r0, r1, rf⟩ := box2 hr
    have rf0 := rf 0
    have rf1 := rf 1
    have HB := Lib.hid hb
    obtain ⟨z0, z1, n0, n1, n2, m0, m1, m2, k0, k1, k2, y0, y1, y2, y3, y4, y5⟩ := far z
    clear hS hr hb rf
    go_wp2
    go_region
    go_wp2
    go_region
    go_wp2
    refine bodyPost_ret (v := .tuple #[tyv 0 ⟨#[]⟩, .bool false]) (by simp [results, Tryz.results27, go_sem, z, z0, z1, n0, n1, n2, m0, m1, m2, k0, k1, k2, y0, y1, y2, y3, y4, y5, r0, r1, rf0, rf1]) rfl ⟨rfl, ?_⟩
    repeat' (first | exact Below.refl _ _ | exact HB.out | apply Below.setCell | apply Below.alloc | apply Below.drew)
    all_goals (try simp)
    all_goals (try omega)
  · have e : binC 1 k s k' s' = 0 := bin_no (.inl ⟨rfl, rfl⟩) (.inr (.inl (by simpa using h2)))
    rw [e]
    have HP : Hid (Calls Tryz.prog 36 #[.int .i64 1] (((w.alloc (.cells #[.int .i64 k, .string s] 24)).alloc (.cells #[.int .i64 k', .string s'] 24)).alloc (.cells #[.int .i64 0, .string ⟨#[]⟩] 24)) fun e V => e = .returned (tyv 1 ⟨#[]⟩) ∧ S3 w k s k' s' V) := Lib.hid ((plain_any 1 _).mono fun e V hq => ⟨hq.1, (S3.start w k s k' s').keep hq.2⟩)
    have HP2 : Hid (∀ V, S3 w k s k' s' V → Calls Tryz.prog 36 #[.int .i64 2] V fun e V' => e = .returned (tyv 2 ⟨#[]⟩) ∧ S3 w k s k' s' V') := Lib.hid fun V hV => (plain_any 2 V).mono fun e V' hq => ⟨hq.1, hV.keep hq.2⟩
    go_enter Tryz.func27, Tryz.ntmps27
    go_wp2_with fail
    refine HP.out.mono ?_
    rintro e V0 ⟨rfl, hS⟩
    go_wp2_with fail
    refine (HP2.out V0 hS).mono ?_
    rintro e V ⟨rfl, hS⟩
    obtain ⟨z, a0, a1, c0, c1, hr, hb⟩ := hS
    obtain ⟨r0, r1, rf⟩ := box2 hr
    have rf0 := rf 0
    have rf1 := rf 1
    have HB := Lib.hid hb
    obtain ⟨z0, z1, n0, n1, n2, m0, m1, m2, k0, k1, k2, y0, y1, y2, y3, y4, y5⟩ := far z
    clear hS hr hb rf
    go_wp2
    go_region
    go_wp2
    go_region
    go_wp2
    refine bodyPost_ret (v := .tuple #[tyv 0 ⟨#[]⟩, .bool false]) (by simp [results, Tryz.results27, go_sem, z, z0, z1, n0, n1, n2, m0, m1, m2, k0, k1, k2, y0, y1, y2, y3, y4, y5, r0, r1, rf0, rf1]) rfl ⟨rfl, ?_⟩
    repeat' (first | exact Below.refl _ _ | exact HB.out | apply Below.setCell | apply Below.alloc | apply Below.drew)
    all_goals (try simp)
    all_goals (try omega)
  · have e : binC 1 k s k' s' = 0 := bin_no (.inl ⟨rfl, rfl⟩) (.inr (.inr (.inl (by simpa using h3))))
    rw [e]
    have HP : Hid (Calls Tryz.prog 36 #[.int .i64 1] (((w.alloc (.cells #[.int .i64 k, .string s] 24)).alloc (.cells #[.int .i64 k', .string s'] 24)).alloc (.cells #[.int .i64 0, .string ⟨#[]⟩] 24)) fun e V => e = .returned (tyv 1 ⟨#[]⟩) ∧ S3 w k s k' s' V) := Lib.hid ((plain_any 1 _).mono fun e V hq => ⟨hq.1, (S3.start w k s k' s').keep hq.2⟩)
    have HP2 : Hid (∀ V, S3 w k s k' s' V → Calls Tryz.prog 36 #[.int .i64 2] V fun e V' => e = .returned (tyv 2 ⟨#[]⟩) ∧ S3 w k s k' s' V') := Lib.hid fun V hV => (plain_any 2 V).mono fun e V' hq => ⟨hq.1, hV.keep hq.2⟩
    go_enter Tryz.func27, Tryz.ntmps27
    go_wp2_with fail
    refine HP.out.mono ?_
    rintro e V0 ⟨rfl, hS⟩
    go_wp2_with fail
    refine (HP2.out V0 hS).mono ?_
    rintro e V ⟨rfl, hS⟩
    obtain ⟨z, a0, a1, c0, c1, hr, hb⟩ := hS
    obtain ⟨r0, r1, rf⟩ := box2 hr
    have rf0 := rf 0
    have rf1 := rf 1
    have HB := Lib.hid hb
    obtain ⟨z0, z1, n0, n1, n2, m0, m1, m2, k0, k1, k2, y0, y1, y2, y3, y4, y5⟩ := far z
    clear hS hr hb rf
    go_wp2
    go_region
    go_wp2
    go_region
    go_wp2
    refine bodyPost_ret (v := .tuple #[tyv 0 ⟨#[]⟩, .bool false]) (by simp [results, Tryz.results27, go_sem, z, z0, z1, n0, n1, n2, m0, m1, m2, k0, k1, k2, y0, y1, y2, y3, y4, y5, r0, r1, rf0, rf1]) rfl ⟨rfl, ?_⟩
    repeat' (first | exact Below.refl _ _ | exact HB.out | apply Below.setCell | apply Below.alloc | apply Below.drew)
    all_goals (try simp)
    all_goals (try omega)
  · have e : binC 1 k s k' s' = 0 := bin_no (.inl ⟨rfl, rfl⟩) (.inr (.inr (.inr (by simpa using h4))))
    rw [e]
    have HP : Hid (Calls Tryz.prog 36 #[.int .i64 1] (((w.alloc (.cells #[.int .i64 k, .string s] 24)).alloc (.cells #[.int .i64 k', .string s'] 24)).alloc (.cells #[.int .i64 0, .string ⟨#[]⟩] 24)) fun e V => e = .returned (tyv 1 ⟨#[]⟩) ∧ S3 w k s k' s' V) := Lib.hid ((plain_any 1 _).mono fun e V hq => ⟨hq.1, (S3.start w k s k' s').keep hq.2⟩)
    have HP2 : Hid (∀ V, S3 w k s k' s' V → Calls Tryz.prog 36 #[.int .i64 2] V fun e V' => e = .returned (tyv 2 ⟨#[]⟩) ∧ S3 w k s k' s' V') := Lib.hid fun V hV => (plain_any 2 V).mono fun e V' hq => ⟨hq.1, hV.keep hq.2⟩
    go_enter Tryz.func27, Tryz.ntmps27
    go_wp2_with fail
    refine HP.out.mono ?_
    rintro e V0 ⟨rfl, hS⟩
    go_wp2_with fail
    refine (HP2.out V0 hS).mono ?_
    rintro e V ⟨rfl, hS⟩
    obtain ⟨z, a0, a1, c0, c1, hr, hb⟩ := hS
    obtain ⟨r0, r1, rf⟩ := box2 hr
    have rf0 := rf 0
    have rf1 := rf 1
    have HB := Lib.hid hb
    obtain ⟨z0, z1, n0, n1, n2, m0, m1, m2, k0, k1, k2, y0, y1, y2, y3, y4, y5⟩ := far z
    clear hS hr hb rf
    go_wp2
    go_region
    go_wp2
    go_region
    go_wp2
    refine bodyPost_ret (v := .tuple #[tyv 0 ⟨#[]⟩, .bool false]) (by simp [results, Tryz.results27, go_sem, z, z0, z1, n0, n1, n2, m0, m1, m2, k0, k1, k2, y0, y1, y2, y3, y4, y5, r0, r1, rf0, rf1]) rfl ⟨rfl, ?_⟩
    repeat' (first | exact Below.refl _ _ | exact HB.out | apply Below.setCell | apply Below.alloc | apply Below.drew)
    all_goals (try simp)
    all_goals (try omega)
set_option maxRecDepth 100000 in
set_option maxHeartbeats 4000000 in
theorem ybin_60 (k : Int) (s : ByteArray) (k' : Int) (s' : ByteArray) (w : World) (hm : s.size ≤ maxLen) (hm' : s'.size ≤ maxLen) (hG : Glob w) :
    Calls Tryz.prog 27 #[.string ⟨#[60]⟩, tyv k s, tyv k' s'] w fun e w' => e = .returned (.tuple #[tyv (binC 2 k s k' s') ⟨#[]⟩, .bool (decide (binC 2 k s k' s' ≠ 0))]) ∧ Below w.heap.size w w' := by
  have HP : Hid (Calls Tryz.prog 36 #[.int .i64 1] (((w.alloc (.cells #[.int .i64 k, .string s] 24)).alloc (.cells #[.int .i64 k', .string s'] 24)).alloc (.cells #[.int .i64 0, .string ⟨#[]⟩] 24)) fun e V => e = .returned (tyv 1 ⟨#[]⟩) ∧ S3 w k s k' s' V) := Lib.hid ((plain_any 1 _).mono fun e V hq => ⟨hq.1, (S3.start w k s k' s').keep hq.2⟩)
  have HP2 : Hid (∀ V, S3 w k s k' s' V → Calls Tryz.prog 36 #[.int .i64 2] V fun e V' => e = .returned (tyv 2 ⟨#[]⟩) ∧ S3 w k s k' s' V') := Lib.hid fun V hV => (plain_any 2 V).mono fun e V' hq => ⟨hq.1, hV.keep hq.2⟩
  clear hm hm' hG
  go_enter Tryz.func27, Tryz.ntmps27
  go_wp2_with fail
  refine HP.out.mono ?_
  rintro e V0 ⟨rfl, hS⟩
  go_wp2_with fail
  refine (HP2.out V0 hS).mono ?_
  rintro e V ⟨rfl, hS⟩
  obtain ⟨z, a0, a1, c0, c1, hr, hb⟩ := hS
  obtain ⟨r0, r1, rf⟩ := box2 hr
  have rf0 := rf 0
  have rf1 := rf 1
  have HB := Lib.hid hb
  obtain ⟨z0, z1, n0, n1, n2, m0, m1, m2, k0, k1, k2, y0, y1, y2, y3, y4, y5⟩ := far z
  clear hS hr hb rf
  go_wp2
  go_region
  go_wp2
  all_goals first
    | (have e := bin_yes (k := k) (k' := k') (s := s) (s' := s') (.inr (.inl ⟨rfl, rfl, rfl⟩)) ‹k = 1› ‹s.toList = []› ‹k' = 1› ‹s'.toList = []›
       rw [e]
       refine bodyPost_ret (v := .tuple #[tyv 2 ⟨#[]⟩, .bool true]) (by simp [results, Tryz.results27, go_sem, z, z0, z1, n0, n1, n2, m0, m1, m2, k0, k1, k2, y0, y1, y2, y3, y4, y5, r0, r1, rf0, rf1]) rfl ⟨rfl, ?_⟩)
    | (have e : binC 2 k s k' s' = 0 := bin_no (.inr (.inl ⟨rfl, rfl⟩)) (by first | exact .inl ‹¬ k = 1› | exact .inr (.inl ‹¬ s.toList = []›) | exact .inr (.inr (.inl ‹¬ k' = 1›)) | exact .inr (.inr (.inr ‹¬ s'.toList = []›)))
       rw [e]
       refine bodyPost_ret (v := .tuple #[tyv 0 ⟨#[]⟩, .bool false]) (by simp [results, Tryz.results27, go_sem, z, z0, z1, n0, n1, n2, m0, m1, m2, k0, k1, k2, y0, y1, y2, y3, y4, y5, r0, r1, rf0, rf1]) rfl ⟨rfl, ?_⟩)
  all_goals
    repeat' (first | exact Below.refl _ _ | exact HB.out | apply Below.setCell | apply Below.alloc | apply Below.drew)
    all_goals (try simp)
    all_goals (try omega)
set_option maxRecDepth 100000 in
set_option maxHeartbeats 4000000 in
theorem ybin_6061 (k : Int) (s : ByteArray) (k' : Int) (s' : ByteArray) (w : World) (hm : s.size ≤ maxLen) (hm' : s'.size ≤ maxLen) (hG : Glob w) :
    Calls Tryz.prog 27 #[.string ⟨#[60, 61]⟩, tyv k s, tyv k' s'] w fun e w' => e = .returned (.tuple #[tyv (binC 2 k s k' s') ⟨#[]⟩, .bool (decide (binC 2 k s k' s' ≠ 0))]) ∧ Below w.heap.size w w' := by
  have HP : Hid (Calls Tryz.prog 36 #[.int .i64 1] (((w.alloc (.cells #[.int .i64 k, .string s] 24)).alloc (.cells #[.int .i64 k', .string s'] 24)).alloc (.cells #[.int .i64 0, .string ⟨#[]⟩] 24)) fun e V => e = .returned (tyv 1 ⟨#[]⟩) ∧ S3 w k s k' s' V) := Lib.hid ((plain_any 1 _).mono fun e V hq => ⟨hq.1, (S3.start w k s k' s').keep hq.2⟩)
  have HP2 : Hid (∀ V, S3 w k s k' s' V → Calls Tryz.prog 36 #[.int .i64 2] V fun e V' => e = .returned (tyv 2 ⟨#[]⟩) ∧ S3 w k s k' s' V') := Lib.hid fun V hV => (plain_any 2 V).mono fun e V' hq => ⟨hq.1, hV.keep hq.2⟩
  clear hm hm' hG
  go_enter Tryz.func27, Tryz.ntmps27
  go_wp2_with fail
  refine HP.out.mono ?_
  rintro e V0 ⟨rfl, hS⟩
  go_wp2_with fail
  refine (HP2.out V0 hS).mono ?_
  rintro e V ⟨rfl, hS⟩
  obtain ⟨z, a0, a1, c0, c1, hr, hb⟩ := hS
  obtain ⟨r0, r1, rf⟩ := box2 hr
  have rf0 := rf 0
  have rf1 := rf 1
  have HB := Lib.hid hb
  obtain ⟨z0, z1, n0, n1, n2, m0, m1, m2, k0, k1, k2, y0, y1, y2, y3, y4, y5⟩ := far z
  clear hS hr hb rf
  go_wp2
  go_region
  go_wp2
  all_goals first
    | (have e := bin_yes (k := k) (k' := k') (s := s) (s' := s') (.inr (.inl ⟨rfl, rfl, rfl⟩)) ‹k = 1› ‹s.toList = []› ‹k' = 1› ‹s'.toList = []›
       rw [e]
       refine bodyPost_ret (v := .tuple #[tyv 2 ⟨#[]⟩, .bool true]) (by simp [results, Tryz.results27, go_sem, z, z0, z1, n0, n1, n2, m0, m1, m2, k0, k1, k2, y0, y1, y2, y3, y4, y5, r0, r1, rf0, rf1]) rfl ⟨rfl, ?_⟩)
    | (have e : binC 2 k s k' s' = 0 := bin_no (.inr (.inl ⟨rfl, rfl⟩)) (by first | exact .inl ‹¬ k = 1› | exact .inr (.inl ‹¬ s.toList = []›) | exact .inr (.inr (.inl ‹¬ k' = 1›)) | exact .inr (.inr (.inr ‹¬ s'.toList = []›)))
       rw [e]
       refine bodyPost_ret (v := .tuple #[tyv 0 ⟨#[]⟩, .bool false]) (by simp [results, Tryz.results27, go_sem, z, z0, z1, n0, n1, n2, m0, m1, m2, k0, k1, k2, y0, y1, y2, y3, y4, y5, r0, r1, rf0, rf1]) rfl ⟨rfl, ?_⟩)
  all_goals
    repeat' (first | exact Below.refl _ _ | exact HB.out | apply Below.setCell | apply Below.alloc | apply Below.drew)
    all_goals (try simp)
    all_goals (try omega)
set_option maxRecDepth 100000 in
set_option maxHeartbeats 4000000 in
theorem ybin_62 (k : Int) (s : ByteArray) (k' : Int) (s' : ByteArray) (w : World) (hm : s.size ≤ maxLen) (hm' : s'.size ≤ maxLen) (hG : Glob w) :
    Calls Tryz.prog 27 #[.string ⟨#[62]⟩, tyv k s, tyv k' s'] w fun e w' => e = .returned (.tuple #[tyv (binC 2 k s k' s') ⟨#[]⟩, .bool (decide (binC 2 k s k' s' ≠ 0))]) ∧ Below w.heap.size w w' := by
  have HP : Hid (Calls Tryz.prog 36 #[.int .i64 1] (((w.alloc (.cells #[.int .i64 k, .string s] 24)).alloc (.cells #[.int .i64 k', .string s'] 24)).alloc (.cells #[.int .i64 0, .string ⟨#[]⟩] 24)) fun e V => e = .returned (tyv 1 ⟨#[]⟩) ∧ S3 w k s k' s' V) := Lib.hid ((plain_any 1 _).mono fun e V hq => ⟨hq.1, (S3.start w k s k' s').keep hq.2⟩)
  have HP2 : Hid (∀ V, S3 w k s k' s' V → Calls Tryz.prog 36 #[.int .i64 2] V fun e V' => e = .returned (tyv 2 ⟨#[]⟩) ∧ S3 w k s k' s' V') := Lib.hid fun V hV => (plain_any 2 V).mono fun e V' hq => ⟨hq.1, hV.keep hq.2⟩
  clear hm hm' hG
  go_enter Tryz.func27, Tryz.ntmps27
  go_wp2_with fail
  refine HP.out.mono ?_
  rintro e V0 ⟨rfl, hS⟩
  go_wp2_with fail
  refine (HP2.out V0 hS).mono ?_
  rintro e V ⟨rfl, hS⟩
  obtain ⟨z, a0, a1, c0, c1, hr, hb⟩ := hS
  obtain ⟨r0, r1, rf⟩ := box2 hr
  have rf0 := rf 0
  have rf1 := rf 1
  have HB := Lib.hid hb
  obtain ⟨z0, z1, n0, n1, n2, m0, m1, m2, k0, k1, k2, y0, y1, y2, y3, y4, y5⟩ := far z
  clear hS hr hb rf
  go_wp2
  go_region
  go_wp2
  all_goals first
    | (have e := bin_yes (k := k) (k' := k') (s := s) (s' := s') (.inr (.inl ⟨rfl, rfl, rfl⟩)) ‹k = 1› ‹s.toList = []› ‹k' = 1› ‹s'.toList = []›
       rw [e]
       refine bodyPost_ret (v := .tuple #[tyv 2 ⟨#[]⟩, .bool true]) (by simp [results, Tryz.results27, go_sem, z, z0, z1, n0, n1, n2, m0, m1, m2, k0, k1, k2, y0, y1, y2, y3, y4, y5, r0, r1, rf0, rf1]) rfl ⟨rfl, ?_⟩)
    | (have e : binC 2 k s k' s' = 0 := bin_no (.inr (.inl ⟨rfl, rfl⟩)) (by first | exact .inl ‹¬ k = 1› | exact .inr (.inl ‹¬ s.toList = []›) | exact .inr (.inr (.inl ‹¬ k' = 1›)) | exact .inr (.inr (.inr ‹¬ s'.toList = []›)))
       rw [e]
       refine bodyPost_ret (v := .tuple #[tyv 0 ⟨#[]⟩, .bool false]) (by simp [results, Tryz.results27, go_sem, z, z0, z1, n0, n1, n2, m0, m1, m2, k0, k1, k2, y0, y1, y2, y3, y4, y5, r0, r1, rf0, rf1]) rfl ⟨rfl, ?_⟩)
  all_goals
    repeat' (first | exact Below.refl _ _ | exact HB.out | apply Below.setCell | apply Below.alloc | apply Below.drew)
    all_goals (try simp)
    all_goals (try omega)
set_option maxRecDepth 100000 in
set_option maxHeartbeats 4000000 in
theorem ybin_6261 (k : Int) (s : ByteArray) (k' : Int) (s' : ByteArray) (w : World) (hm : s.size ≤ maxLen) (hm' : s'.size ≤ maxLen) (hG : Glob w) :
    Calls Tryz.prog 27 #[.string ⟨#[62, 61]⟩, tyv k s, tyv k' s'] w fun e w' => e = .returned (.tuple #[tyv (binC 2 k s k' s') ⟨#[]⟩, .bool (decide (binC 2 k s k' s' ≠ 0))]) ∧ Below w.heap.size w w' := by
  have HP : Hid (Calls Tryz.prog 36 #[.int .i64 1] (((w.alloc (.cells #[.int .i64 k, .string s] 24)).alloc (.cells #[.int .i64 k', .string s'] 24)).alloc (.cells #[.int .i64 0, .string ⟨#[]⟩] 24)) fun e V => e = .returned (tyv 1 ⟨#[]⟩) ∧ S3 w k s k' s' V) := Lib.hid ((plain_any 1 _).mono fun e V hq => ⟨hq.1, (S3.start w k s k' s').keep hq.2⟩)
  have HP2 : Hid (∀ V, S3 w k s k' s' V → Calls Tryz.prog 36 #[.int .i64 2] V fun e V' => e = .returned (tyv 2 ⟨#[]⟩) ∧ S3 w k s k' s' V') := Lib.hid fun V hV => (plain_any 2 V).mono fun e V' hq => ⟨hq.1, hV.keep hq.2⟩
  clear hm hm' hG
  go_enter Tryz.func27, Tryz.ntmps27
  go_wp2_with fail
  refine HP.out.mono ?_
  rintro e V0 ⟨rfl, hS⟩
  go_wp2_with fail
  refine (HP2.out V0 hS).mono ?_
  rintro e V ⟨rfl, hS⟩
  obtain ⟨z, a0, a1, c0, c1, hr, hb⟩ := hS
  obtain ⟨r0, r1, rf⟩ := box2 hr
  have rf0 := rf 0
  have rf1 := rf 1
  have HB := Lib.hid hb
  obtain ⟨z0, z1, n0, n1, n2, m0, m1, m2, k0, k1, k2, y0, y1, y2, y3, y4, y5⟩ := far z
  clear hS hr hb rf
  go_wp2
  go_region
  go_wp2
  all_goals first
    | (have e := bin_yes (k := k) (k' := k') (s := s) (s' := s') (.inr (.inl ⟨rfl, rfl, rfl⟩)) ‹k = 1› ‹s.toList = []› ‹k' = 1› ‹s'.toList = []›
       rw [e]
       refine bodyPost_ret (v := .tuple #[tyv 2 ⟨#[]⟩, .bool true]) (by simp [results, Tryz.results27, go_sem, z, z0, z1, n0, n1, n2, m0, m1, m2, k0, k1, k2, y0, y1, y2, y3, y4, y5, r0, r1, rf0, rf1]) rfl ⟨rfl, ?_⟩)
    | (have e : binC 2 k s k' s' = 0 := bin_no (.inr (.inl ⟨rfl, rfl⟩)) (by first | exact .inl ‹¬ k = 1› | exact .inr (.inl ‹¬ s.toList = []›) | exact .inr (.inr (.inl ‹¬ k' = 1›)) | exact .inr (.inr (.inr ‹¬ s'.toList = []›)))
       rw [e]
       refine bodyPost_ret (v := .tuple #[tyv 0 ⟨#[]⟩, .bool false]) (by simp [results, Tryz.results27, go_sem, z, z0, z1, n0, n1, n2, m0, m1, m2, k0, k1, k2, y0, y1, y2, y3, y4, y5, r0, r1, rf0, rf1]) rfl ⟨rfl, ?_⟩)
  all_goals
    repeat' (first | exact Below.refl _ _ | exact HB.out | apply Below.setCell | apply Below.alloc | apply Below.drew)
    all_goals (try simp)
    all_goals (try omega)
set_option maxRecDepth 100000 in
set_option maxHeartbeats 4000000 in
theorem ybin_6161 (k : Int) (s : ByteArray) (k' : Int) (s' : ByteArray) (w : World) (hm : s.size ≤ maxLen) (hm' : s'.size ≤ maxLen) (hG : Glob w) :
    Calls Tryz.prog 27 #[.string ⟨#[61, 61]⟩, tyv k s, tyv k' s'] w fun e w' => e = .returned (.tuple #[tyv (binC 3 k s k' s') ⟨#[]⟩, .bool (decide (binC 3 k s k' s' ≠ 0))]) ∧ Below w.heap.size w w' := by
  obtain ⟨v, hv⟩ : ∃ v, cmB k s k' s' = v := ⟨_, rfl⟩
  have HC : Hid (∀ V, Below w.heap.size w V → Calls Tryz.prog 25 #[tyv k s, tyv k' s'] V fun e w' => e = .returned (.bool v) ∧ Below V.heap.size V w') := Lib.hid fun V hV => hv ▸ ycompare_any k s k' s' V hm hm' (glob_below hG hV)
  have HV : Hid (binC 3 k s k' s' = if v then 2 else 0) := Lib.hid (by unfold binC; rw [hv]; simp)
  rw [HV.out]
  clear hv hm hm' hG
  have HP : Hid (Calls Tryz.prog 36 #[.int .i64 1] (((w.alloc (.cells #[.int .i64 k, .string s] 24)).alloc (.cells #[.int .i64 k', .string s'] 24)).alloc (.cells #[.int .i64 0, .string ⟨#[]⟩] 24)) fun e V => e = .returned (tyv 1 ⟨#[]⟩) ∧ S3 w k s k' s' V) := Lib.hid ((plain_any 1 _).mono fun e V hq => ⟨hq.1, (S3.start w k s k' s').keep hq.2⟩)
  have HP2 : Hid (∀ V, S3 w k s k' s' V → Calls Tryz.prog 36 #[.int .i64 2] V fun e V' => e = .returned (tyv 2 ⟨#[]⟩) ∧ S3 w k s k' s' V') := Lib.hid fun V hV => (plain_any 2 V).mono fun e V' hq => ⟨hq.1, hV.keep hq.2⟩
  cases v with
  | false =>
    show Calls Tryz.prog 27 _ w fun e w' => e = .returned (.tuple #[tyv 0 ⟨#[]⟩, .bool false]) ∧ _
    go_enter Tryz.func27, Tryz.ntmps27
    go_wp2_with fail
    refine HP.out.mono ?_
    rintro e V0 ⟨rfl, hS⟩
    go_wp2_with fail
    refine (HP2.out V0 hS).mono ?_
    rintro e V ⟨rfl, hS⟩
    obtain ⟨z, a0, a1, c0, c1, hr, hb⟩ := hS
    obtain ⟨r0, r1, rf⟩ := box2 hr
    have rf0 := rf 0
    have rf1 := rf 1
    have HB := Lib.hid hb
    obtain ⟨z0, z1, n0, n1, n2, m0, m1, m2, k0, k1, k2, y0, y1, y2, y3, y4, y5⟩ := far z
    clear hS hr hb rf
    go_wp2
    go_region
    go_wp2_with fail
    refine (HC.out _ ?_).mono ?_
    · exact HB.out.trans ((Below.drew (b3 V _ _ _)).mono (by omega))
    rintro e V1 ⟨rfl, hb⟩
    obtain ⟨x0, x1, x2, x3, x4, x5, x6, x7, x8⟩ := fourth z r0 r1 rf0 rf1 hb
    have HB1 := Lib.hid (HB.out.trans (x8.mono (by omega)))
    clear hb x8
    go_wp2
    refine bodyPost_ret (v := .tuple #[tyv 0 ⟨#[]⟩, .bool false]) (by simp [results, Tryz.results27, go_sem, x0, x1, x2, x3, x4, x5, x6, x7]) rfl ⟨rfl, ?_⟩
    exact (HB1.out.setCell (by simp; omega) _).setCell (by simp; omega) _
  | true =>
    show Calls Tryz.prog 27 _ w fun e w' => e = .returned (.tuple #[tyv 2 ⟨#[]⟩, .bool true]) ∧ _
    go_enter Tryz.func27, Tryz.ntmps27
    go_wp2_with fail
    refine HP.out.mono ?_
    rintro e V0 ⟨rfl, hS⟩
    go_wp2_with fail
    refine (HP2.out V0 hS).mono ?_
    rintro e V ⟨rfl, hS⟩
    obtain ⟨z, a0, a1, c0, c1, hr, hb⟩ := hS
    obtain ⟨r0, r1, rf⟩ := box2 hr
    have rf0 := rf 0
    have rf1 := rf 1
    have HB := Lib.hid hb
    obtain ⟨z0, z1, n0, n1, n2, m0, m1, m2, k0, k1, k2, y0, y1, y2, y3, y4, y5⟩ := far z
    clear hS hr hb rf
    go_wp2
    go_region
    go_wp2_with fail
    refine (HC.out _ ?_).mono ?_
    · exact HB.out.trans ((Below.drew (b3 V _ _ _)).mono (by omega))
    rintro e V1 ⟨rfl, hb⟩
    obtain ⟨x0, x1, x2, x3, x4, x5, x6, x7, x8⟩ := fourth z r0 r1 rf0 rf1 hb
    have HB1 := Lib.hid (HB.out.trans (x8.mono (by omega)))
    clear hb x8
    go_wp2
    refine bodyPost_ret (v := .tuple #[tyv 2 ⟨#[]⟩, .bool true]) (by simp [results, Tryz.results27, go_sem, x0, x1, x2, x3, x4, x5, x6, x7]) rfl ⟨rfl, ?_⟩
    exact (HB1.out.setCell (by simp; omega) _).setCell (by simp; omega) _
set_option maxRecDepth 100000 in
set_option maxHeartbeats 4000000 in
theorem ybin_3361 (k : Int) (s : ByteArray) (k' : Int) (s' : ByteArray) (w : World) (hm : s.size ≤ maxLen) (hm' : s'.size ≤ maxLen) (hG : Glob w) :
    Calls Tryz.prog 27 #[.string ⟨#[33, 61]⟩, tyv k s, tyv k' s'] w fun e w' => e = .returned (.tuple #[tyv (binC 3 k s k' s') ⟨#[]⟩, .bool (decide (binC 3 k s k' s' ≠ 0))]) ∧ Below w.heap.size w w' := by
  obtain ⟨v, hv⟩ : ∃ v, cmB k s k' s' = v := ⟨_, rfl⟩
  have HC : Hid (∀ V, Below w.heap.size w V → Calls Tryz.prog 25 #[tyv k s, tyv k' s'] V fun e w' => e = .returned (.bool v) ∧ Below V.heap.size V w') := Lib.hid fun V hV => hv ▸ ycompare_any k s k' s' V hm hm' (glob_below hG hV)
  have HV : Hid (binC 3 k s k' s' = if v then 2 else 0) := Lib.hid (by unfold binC; rw [hv]; simp)
  rw [HV.out]
  clear hv hm hm' hG
  have HP : Hid (Calls Tryz.prog 36 #[.int .i64 1] (((w.alloc (.cells #[.int .i64 k, .string s] 24)).alloc (.cells #[.int .i64 k', .string s'] 24)).alloc (.cells #[.int .i64 0, .string ⟨#[]⟩] 24)) fun e V => e = .returned (tyv 1 ⟨#[]⟩) ∧ S3 w k s k' s' V) := Lib.hid ((plain_any 1 _).mono fun e V hq => ⟨hq.1, (S3.start w k s k' s').keep hq.2⟩)
  have HP2 : Hid (∀ V, S3 w k s k' s' V → Calls Tryz.prog 36 #[.int .i64 2] V fun e V' => e = .returned (tyv 2 ⟨#[]⟩) ∧ S3 w k s k' s' V') := Lib.hid fun V hV => (plain_any 2 V).mono fun e V' hq => ⟨hq.1, hV.keep hq.2⟩
  cases v with
  | false =>
    show Calls Tryz.prog 27 _ w fun e w' => e = .returned (.tuple #[tyv 0 ⟨#[]⟩, .bool false]) ∧ _
    go_enter Tryz.func27, Tryz.ntmps27
    go_wp2_with fail
    refine HP.out.mono ?_
    rintro e V0 ⟨rfl, hS⟩
    go_wp2_with fail
    refine (HP2.out V0 hS).mono ?_
    rintro e V ⟨rfl, hS⟩
    obtain ⟨z, a0, a1, c0, c1, hr, hb⟩ := hS
    obtain ⟨r0, r1, rf⟩ := box2 hr
    have rf0 := rf 0
    have rf1 := rf 1
    have HB := Lib.hid hb
    obtain ⟨z0, z1, n0, n1, n2, m0, m1, m2, k0, k1, k2, y0, y1, y2, y3, y4, y5⟩ := far z
    clear hS hr hb rf
    go_wp2
    go_region
    go_wp2_with fail
    refine (HC.out _ ?_).mono ?_
    · exact HB.out.trans ((Below.drew (b3 V _ _ _)).mono (by omega))
    rintro e V1 ⟨rfl, hb⟩
    obtain ⟨x0, x1, x2, x3, x4, x5, x6, x7, x8⟩ := fourth z r0 r1 rf0 rf1 hb
    have HB1 := Lib.hid (HB.out.trans (x8.mono (by omega)))
    clear hb x8
    go_wp2
    refine bodyPost_ret (v := .tuple #[tyv 0 ⟨#[]⟩, .bool false]) (by simp [results, Tryz.results27, go_sem, x0, x1, x2, x3, x4, x5, x6, x7]) rfl ⟨rfl, ?_⟩
    exact (HB1.out.setCell (by simp; omega) _).setCell (by simp; omega) _
  | true =>
    show Calls Tryz.prog 27 _ w fun e w' => e = .returned (.tuple #[tyv 2 ⟨#[]⟩, .bool true]) ∧ _
    go_enter Tryz.func27, Tryz.ntmps27
    go_wp2_with fail
    refine HP.out.mono ?_
    rintro e V0 ⟨rfl, hS⟩
    go_wp2_with fail
    refine (HP2.out V0 hS).mono ?_
    rintro e V ⟨rfl, hS⟩
    obtain ⟨z, a0, a1, c0, c1, hr, hb⟩ := hS
    obtain ⟨r0, r1, rf⟩ := box2 hr
    have rf0 := rf 0
    have rf1 := rf 1
    have HB := Lib.hid hb
    obtain ⟨z0, z1, n0, n1, n2, m0, m1, m2, k0, k1, k2, y0, y1, y2, y3, y4, y5⟩ := far z
    clear hS hr hb rf
    go_wp2
    go_region
    go_wp2_with fail
    refine (HC.out _ ?_).mono ?_
    · exact HB.out.trans ((Below.drew (b3 V _ _ _)).mono (by omega))
    rintro e V1 ⟨rfl, hb⟩
    obtain ⟨x0, x1, x2, x3, x4, x5, x6, x7, x8⟩ := fourth z r0 r1 rf0 rf1 hb
    have HB1 := Lib.hid (HB.out.trans (x8.mono (by omega)))
    clear hb x8
    go_wp2
    refine bodyPost_ret (v := .tuple #[tyv 2 ⟨#[]⟩, .bool true]) (by simp [results, Tryz.results27, go_sem, x0, x1, x2, x3, x4, x5, x6, x7]) rfl ⟨rfl, ?_⟩
    exact (HB1.out.setCell (by simp; omega) _).setCell (by simp; omega) _
set_option maxRecDepth 100000 in
set_option maxHeartbeats 4000000 in
theorem ybin_3838 (k : Int) (s : ByteArray) (k' : Int) (s' : ByteArray) (w : World) (hm : s.size ≤ maxLen) (hm' : s'.size ≤ maxLen) (hG : Glob w) :
    Calls Tryz.prog 27 #[.string ⟨#[38, 38]⟩, tyv k s, tyv k' s'] w fun e w' => e = .returned (.tuple #[tyv (binC 4 k s k' s') ⟨#[]⟩, .bool (decide (binC 4 k s k' s' ≠ 0))]) ∧ Below w.heap.size w w' := by
  have HP : Hid (Calls Tryz.prog 36 #[.int .i64 1] (((w.alloc (.cells #[.int .i64 k, .string s] 24)).alloc (.cells #[.int .i64 k', .string s'] 24)).alloc (.cells #[.int .i64 0, .string ⟨#[]⟩] 24)) fun e V => e = .returned (tyv 1 ⟨#[]⟩) ∧ S3 w k s k' s' V) := Lib.hid ((plain_any 1 _).mono fun e V hq => ⟨hq.1, (S3.start w k s k' s').keep hq.2⟩)
  have HP2 : Hid (∀ V, S3 w k s k' s' V → Calls Tryz.prog 36 #[.int .i64 2] V fun e V' => e = .returned (tyv 2 ⟨#[]⟩) ∧ S3 w k s k' s' V') := Lib.hid fun V hV => (plain_any 2 V).mono fun e V' hq => ⟨hq.1, hV.keep hq.2⟩
  clear hm hm' hG
  go_enter Tryz.func27, Tryz.ntmps27
  go_wp2_with fail
  refine HP.out.mono ?_
  rintro e V0 ⟨rfl, hS⟩
  go_wp2_with fail
  refine (HP2.out V0 hS).mono ?_
  rintro e V ⟨rfl, hS⟩
  obtain ⟨z, a0, a1, c0, c1, hr, hb⟩ := hS
  obtain ⟨r0, r1, rf⟩ := box2 hr
  have rf0 := rf 0
  have rf1 := rf 1
  have HB := Lib.hid hb
  obtain ⟨z0, z1, n0, n1, n2, m0, m1, m2, k0, k1, k2, y0, y1, y2, y3, y4, y5⟩ := far z
  clear hS hr hb rf
  go_wp2
  go_region
  go_wp2
  all_goals first
    | (have e := bin_yes (k := k) (k' := k') (s := s) (s' := s') (.inr (.inr ⟨rfl, rfl, rfl⟩)) ‹k = 2› ‹s.toList = []› ‹k' = 2› ‹s'.toList = []›
       rw [e]
       refine bodyPost_ret (v := .tuple #[tyv 2 ⟨#[]⟩, .bool true]) (by simp [results, Tryz.results27, go_sem, z, z0, z1, n0, n1, n2, m0, m1, m2, k0, k1, k2, y0, y1, y2, y3, y4, y5, r0, r1, rf0, rf1]) rfl ⟨rfl, ?_⟩)
    | (have e : binC 4 k s k' s' = 0 := bin_no (.inr (.inr ⟨rfl, rfl⟩)) (by first | exact .inl ‹¬ k = 2› | exact .inr (.inl ‹¬ s.toList = []›) | exact .inr (.inr (.inl ‹¬ k' = 2›)) | exact .inr (.inr (.inr ‹¬ s'.toList = []›)))
       rw [e]
       refine bodyPost_ret (v := .tuple #[tyv 0 ⟨#[]⟩, .bool false]) (by simp [results, Tryz.results27, go_sem, z, z0, z1, n0, n1, n2, m0, m1, m2, k0, k1, k2, y0, y1, y2, y3, y4, y5, r0, r1, rf0, rf1]) rfl ⟨rfl, ?_⟩)
  all_goals
    repeat' (first | exact Below.refl _ _ | exact HB.out | apply Below.setCell | apply Below.alloc | apply Below.drew)
    all_goals (try simp)
    all_goals (try omega)
set_option maxRecDepth 100000 in
set_option maxHeartbeats 4000000 in
theorem ybin_124124 (k : Int) (s : ByteArray) (k' : Int) (s' : ByteArray) (w : World) (hm : s.size ≤ maxLen) (hm' : s'.size ≤ maxLen) (hG : Glob w) :
    Calls Tryz.prog 27 #[.string ⟨#[124, 124]⟩, tyv k s, tyv k' s'] w fun e w' => e = .returned (.tuple #[tyv (binC 4 k s k' s') ⟨#[]⟩, .bool (decide (binC 4 k s k' s' ≠ 0))]) ∧ Below w.heap.size w w' := by
  have HP : Hid (Calls Tryz.prog 36 #[.int .i64 1] (((w.alloc (.cells #[.int .i64 k, .string s] 24)).alloc (.cells #[.int .i64 k', .string s'] 24)).alloc (.cells #[.int .i64 0, .string ⟨#[]⟩] 24)) fun e V => e = .returned (tyv 1 ⟨#[]⟩) ∧ S3 w k s k' s' V) := Lib.hid ((plain_any 1 _).mono fun e V hq => ⟨hq.1, (S3.start w k s k' s').keep hq.2⟩)
  have HP2 : Hid (∀ V, S3 w k s k' s' V → Calls Tryz.prog 36 #[.int .i64 2] V fun e V' => e = .returned (tyv 2 ⟨#[]⟩) ∧ S3 w k s k' s' V') := Lib.hid fun V hV => (plain_any 2 V).mono fun e V' hq => ⟨hq.1, hV.keep hq.2⟩
  clear hm hm' hG
  go_enter Tryz.func27, Tryz.ntmps27
  go_wp2_with fail
  refine HP.out.mono ?_
  rintro e V0 ⟨rfl, hS⟩
  go_wp2_with fail
  refine (HP2.out V0 hS).mono ?_
  rintro e V ⟨rfl, hS⟩
  obtain ⟨z, a0, a1, c0, c1, hr, hb⟩ := hS
  obtain ⟨r0, r1, rf⟩ := box2 hr
  have rf0 := rf 0
  have rf1 := rf 1
  have HB := Lib.hid hb
  obtain ⟨z0, z1, n0, n1, n2, m0, m1, m2, k0, k1, k2, y0, y1, y2, y3, y4, y5⟩ := far z
  clear hS hr hb rf
  go_wp2
  go_region
  go_wp2
  all_goals first
    | (have e := bin_yes (k := k) (k' := k') (s := s) (s' := s') (.inr (.inr ⟨rfl, rfl, rfl⟩)) ‹k = 2› ‹s.toList = []› ‹k' = 2› ‹s'.toList = []›
       rw [e]
       refine bodyPost_ret (v := .tuple #[tyv 2 ⟨#[]⟩, .bool true]) (by simp [results, Tryz.results27, go_sem, z, z0, z1, n0, n1, n2, m0, m1, m2, k0, k1, k2, y0, y1, y2, y3, y4, y5, r0, r1, rf0, rf1]) rfl ⟨rfl, ?_⟩)
    | (have e : binC 4 k s k' s' = 0 := bin_no (.inr (.inr ⟨rfl, rfl⟩)) (by first | exact .inl ‹¬ k = 2› | exact .inr (.inl ‹¬ s.toList = []›) | exact .inr (.inr (.inl ‹¬ k' = 2›)) | exact .inr (.inr (.inr ‹¬ s'.toList = []›)))
       rw [e]
       refine bodyPost_ret (v := .tuple #[tyv 0 ⟨#[]⟩, .bool false]) (by simp [results, Tryz.results27, go_sem, z, z0, z1, n0, n1, n2, m0, m1, m2, k0, k1, k2, y0, y1, y2, y3, y4, y5, r0, r1, rf0, rf1]) rfl ⟨rfl, ?_⟩)
  all_goals
    repeat' (first | exact Below.refl _ _ | exact HB.out | apply Below.setCell | apply Below.alloc | apply Below.drew)
    all_goals (try simp)
    all_goals (try omega)
set_option maxRecDepth 100000 in
set_option maxHeartbeats 4000000 in
theorem ybin_no (op : ByteArray) (k : Int) (s : ByteArray) (k' : Int) (s' : ByteArray) (w : World) (h43 : (op.toList == [43]) = false) (h45 : (op.toList == [45]) = false) (h42 : (op.toList == [42]) = false) (h47 : (op.toList == [47]) = false) (h37 : (op.toList == [37]) = false) (h60 : (op.toList == [60]) = false) (h6061 : (op.toList == [60, 61]) = false) (h62 : (op.toList == [62]) = false) (h6261 : (op.toList == [62, 61]) = false) (h6161 : (op.toList == [61, 61]) = false) (h3361 : (op.toList == [33, 61]) = false) (h3838 : (op.toList == [38, 38]) = false) (h124124 : (op.toList == [124, 124]) = false) :
    Calls Tryz.prog 27 #[.string op, tyv k s, tyv k' s'] w fun e w' => e = .returned (.tuple #[tyv 0 ⟨#[]⟩, .bool false]) ∧ Below w.heap.size w w' := by
  have HP : Hid (Calls Tryz.prog 36 #[.int .i64 1] (((w.alloc (.cells #[.int .i64 k, .string s] 24)).alloc (.cells #[.int .i64 k', .string s'] 24)).alloc (.cells #[.int .i64 0, .string ⟨#[]⟩] 24)) fun e V => e = .returned (tyv 1 ⟨#[]⟩) ∧ S3 w k s k' s' V) := Lib.hid ((plain_any 1 _).mono fun e V hq => ⟨hq.1, (S3.start w k s k' s').keep hq.2⟩)
  have HP2 : Hid (∀ V, S3 w k s k' s' V → Calls Tryz.prog 36 #[.int .i64 2] V fun e V' => e = .returned (tyv 2 ⟨#[]⟩) ∧ S3 w k s k' s' V') := Lib.hid fun V hV => (plain_any 2 V).mono fun e V' hq => ⟨hq.1, hV.keep hq.2⟩
  go_enter Tryz.func27, Tryz.ntmps27
  go_wp2_with fail
  refine HP.out.mono ?_
  rintro e V0 ⟨rfl, hS⟩
  go_wp2_with fail
  refine (HP2.out V0 hS).mono ?_
  rintro e V ⟨rfl, hS⟩
  obtain ⟨z, a0, a1, c0, c1, hr, hb⟩ := hS
  obtain ⟨r0, r1, rf⟩ := box2 hr
  have rf0 := rf 0
  have rf1 := rf 1
  have HB := Lib.hid hb
  obtain ⟨z0, z1, n0, n1, n2, m0, m1, m2, k0, k1, k2, y0, y1, y2, y3, y4, y5⟩ := far z
  clear hS hr hb rf
  go_wp2
  go_region
  go_wp2
  refine bodyPost_ret (v := .tuple #[tyv 0 ⟨#[]⟩, .bool false]) (by simp [results, Tryz.results27, go_sem, z, z0, z1, n0, n1, n2, m0, m1, m2, k0, k1, k2, y0, y1, y2, y3, y4, y5, r0, r1, rf0, rf1]) rfl ⟨rfl, ?_⟩
  repeat' (first | exact Below.refl _ _ | exact HB.out | apply Below.setCell | apply Below.alloc | apply Below.drew)
  all_goals (try simp)
  all_goals (try omega)
end Go.Proofs.YtijhdlmnoinfiaaGreatDoor
