/-
  The walk of the law FoldArithmetic.
-/
import Derived.Test.YtnknphchjmnkcaaGreatDoorFS
import Derived.Deep.RegionHeld3
set_option linter.all false
namespace Go.Proofs.YtnknphchjmnkcaaGreatDoor
open Go.RowKit T T.Fo
open RowKit (wrap64)
theorem cell_bl {V w' : World} {b i : Nat} {v : Value} (h : V.cell? ⟨b, i, none⟩ = some v) (hb : Below V.heap.size V w') : w'.cell? ⟨b, i, none⟩ = some v :=
  (hb.cell (p := ⟨b, i, none⟩) (World.block_lt_of_cell? V _ h)).trans h
theorem neg_ev {v : Int} (h1 : -9223372036854775807 ≤ v) (h2 : v < 0) : evT (negT v).1 (negT v).2 = ⟨24, v⟩ := by
  have e : evT (litH 24 (-v) 0) .nil = ⟨24, -v⟩ := evT_lit (.inl ⟨rfl, by omega⟩)
  unfold negT evT
  rw [evF_cons, e]
  show unL [45] ⟨24, -v⟩ = _
  simp [unL, ofI]
  exact wr_id (by unfold rg; omega)
theorem num_ev {v : Int} (hv : rg v) : evT (numT v).1 (numT v).2 = ⟨24, v⟩ := by
  unfold rg at hv
  unfold numT
  by_cases h0 : 0 ≤ v
  · rw [if_pos h0]; exact evT_lit (.inl ⟨rfl, h0⟩)
  · rw [if_neg h0]
    by_cases h1 : v = -9223372036854775808
    · rw [if_pos h1]; subst h1; decide +kernel
    · rw [if_neg h1]; exact neg_ev (by omega) (by omega)
theorem num_small (v : Int) : (numT v).2.dep ≤ 3 := by
  unfold numT negT
  by_cases h0 : 0 ≤ v
  · rw [if_pos h0]; exact Nat.zero_le _
  · rw [if_neg h0]
    by_cases h1 : v = -9223372036854775808
    · rw [if_pos h1]; decide
    · rw [if_neg h1]; show max (0 + 1) 0 ≤ 3; decide
/-- What a call of number leaves. -/
def GN (h : Hd) (k : Fo) (n : Nat) (w : World) (e : Ending) (w' : World) : Prop := ∃ (A : Option Addr) (cap : Nat), e = .returned (nv h A n cap) ∧ (k.len ≤ cap ∧ Kids (Lt w'.heap.size) w' A k) ∧ Below w.heap.size w w'
theorem ar_val (op : ByteArray) (a b : Int) (ha : rg a) (hb : rg b) (c : Cv) (hc : binL op.toList ⟨24, a⟩ ⟨24, b⟩ = c) : evT (binH op) (.cons (numT a).1 (numT a).2 (.cons (numT b).1 (numT b).2 .nil)) = c := by
  rw [evT_32 (h := binH op) rfl, num_ev ha, num_ev hb, if_neg (show ¬ (24 : Int) = 0 by decide), ← hc]
  rfl
set_option maxRecDepth 100000

set_option maxHeartbeats 8000000 in
theorem arith_0 (a b op : Int) (w : World) (hG : Glob w) (ha : rg a) (hb : rg b) (o0 : 0 ≤ op) (o1 : op ≤ 255) (hk : op % 7 = 0) : Calls Tryz.prog 5 #[.int .i64 a, .int .i64 b, .int .u8 op] w fun e w' => e = .returned (.bool true) ∧ Below w.heap.size w w' := by
  have HAW := Lib.hid (awake_any w hG)
  have hcv : binL (⟨#[43]⟩ : ByteArray).toList ⟨24, a⟩ ⟨24, b⟩ = ⟨24, wrap64 (a + b)⟩ := by
    rw [ByteArray.toList_eq]
    simp [binL, intsL, ofI, ofB, no]
  have HNA : Hid (∀ V, Calls Tryz.prog 21 #[.int .i64 a] V (GN (numT a).1 (numT a).2 (numT a).2.len V)) := Lib.hid fun V => (number_any a V ha).mono fun e w' H => by
    obtain ⟨A, c, x, y, z, d⟩ := H
    exact ⟨A, c, x, ⟨y, z.carry fun b hb => ⟨hb.2, rfl⟩⟩, d⟩
  have HNB : Hid (∀ V, Calls Tryz.prog 21 #[.int .i64 b] V (GN (numT b).1 (numT b).2 (numT b).2.len V)) := Lib.hid fun V => (number_any b V hb).mono fun e w' H => by
    obtain ⟨A, c, x, y, z, d⟩ := H
    exact ⟨A, c, x, ⟨y, z.carry fun b hb => ⟨hb.2, rfl⟩⟩, d⟩
  have HBN : Hid (∀ V A A' c c', ((numT a).2.len ≤ c ∧ Kids (Lt V.heap.size) V A (numT a).2) → ((numT b).2.len ≤ c' ∧ Kids (Lt V.heap.size) V A' (numT b).2) → Calls Tryz.prog 20 #[.string ⟨#[43]⟩, nv (numT a).1 A (numT a).2.len c, nv (numT b).1 A' (numT b).2.len c'] V fun e w' => ∃ A c, e = .returned (nv (B32 ⟨#[43]⟩) A 2 c) ∧ Kids (Lt w'.heap.size) w' A (.cons (numT a).1 (numT a).2 (.cons (numT b).1 (numT b).2 .nil)) ∧ Below V.heap.size V w') := Lib.hid fun V A A' c c' h1 h2 => (binary_any ⟨#[43]⟩ _ _ _ _ A A' c c' V h1.1 h1.2 h2.1 h2.2).mono fun e w' ⟨A, c, x, _, z, d⟩ => ⟨A, c, x, z, d⟩
  have HVA : Hid (∀ V A c, Kids (Lt V.heap.size) V A (.cons (numT a).1 (numT a).2 (.cons (numT b).1 (numT b).2 .nil)) → Calls Tryz.prog 14 #[nv (B32 ⟨#[43]⟩) A 2 c] V (RetV (wrap64 (a + b)) true V)) := Lib.hid fun V A c hk1 => by
    have := value_any (B32 ⟨#[43]⟩) (.cons (numT a).1 (numT a).2 (.cons (numT b).1 (numT b).2 .nil)) A c V hk1 (by
      have := num_small a
      have := num_small b
      simp only [Fo.dep]; omega)
    rw [show evT (B32 ⟨#[43]⟩) (.cons (numT a).1 (numT a).2 (.cons (numT b).1 (numT b).2 .nil)) = ⟨24, wrap64 (a + b)⟩ from ar_val ⟨#[43]⟩ a b ha hb _ hcv] at this
    exact this
  obtain ⟨ka, hka⟩ : ∃ x, (numT a).2 = x := ⟨_, rfl⟩
  obtain ⟨kb, hkb⟩ : ∃ x, (numT b).2 = x := ⟨_, rfl⟩
  obtain ⟨xa, hxa⟩ : ∃ x, (numT a).1 = x := ⟨_, rfl⟩
  obtain ⟨xb, hxb⟩ : ∃ x, (numT b).1 = x := ⟨_, rfl⟩
  rw [hka, hxa] at HNA HBN HVA
  rw [hkb, hxb] at HNB HBN HVA
  obtain ⟨na, hna⟩ : ∃ n, ka.len = n := ⟨_, rfl⟩
  obtain ⟨nb, hnb⟩ : ∃ n, kb.len = n := ⟨_, rfl⟩
  have HNA' : Hid (∀ V, Calls Tryz.prog 21 #[.int .i64 a] V (GN xa ka na V)) := Lib.hid (hna ▸ HNA.out)
  have HNB' : Hid (∀ V, Calls Tryz.prog 21 #[.int .i64 b] V (GN xb kb nb V)) := Lib.hid (hnb ▸ HNB.out)
  have HBN' : Hid (∀ V A A' c c', (ka.len ≤ c ∧ Kids (Lt V.heap.size) V A ka) → (kb.len ≤ c' ∧ Kids (Lt V.heap.size) V A' kb) → Calls Tryz.prog 20 #[.string ⟨#[43]⟩, nv xa A na c, nv xb A' nb c'] V fun e w' => ∃ A c, e = .returned (nv (B32 ⟨#[43]⟩) A 2 c) ∧ Kids (Lt w'.heap.size) w' A (.cons xa ka (.cons xb kb .nil)) ∧ Below V.heap.size V w') := Lib.hid fun V A A' c c' h1 h2 => by
    have := HBN.out V A A' c c' h1 h2
    rwa [hna, hnb] at this
  have er : ((wrap64 (a + b) : Int) == wrap64 (a + b)) = true := by simp
  clear hG ha hb hcv HNA HNB HBN hka hkb hxa hxb hna hnb
  go_enter Tryz.func5, Tryz.ntmps5
  go_wp2_with fail
  refine HAW.out.mono ?_
  rintro e w1 ⟨rfl, hb1⟩
  have B1 := Lib.hid hb1
  clear hb1
  go_wp2
  have HS0 : Hid ((w1.alloc (.cells #[.string ⟨#[43]⟩, .string ⟨#[45]⟩, .string ⟨#[42]⟩, .string ⟨#[47]⟩, .string ⟨#[37]⟩, .string ⟨#[60]⟩, .string ⟨#[61, 61]⟩] 34)).cell? ⟨w1.heap.size, 0, none⟩ = some (.string ⟨#[43]⟩) ∧ Below w1.heap.size w1 (w1.alloc (.cells #[.string ⟨#[43]⟩, .string ⟨#[45]⟩, .string ⟨#[42]⟩, .string ⟨#[47]⟩, .string ⟨#[37]⟩, .string ⟨#[60]⟩, .string ⟨#[61, 61]⟩] 34))) := Lib.hid ⟨by
    have e := heap_alloc_new w1 (.cells #[.string ⟨#[43]⟩, .string ⟨#[45]⟩, .string ⟨#[42]⟩, .string ⟨#[47]⟩, .string ⟨#[37]⟩, .string ⟨#[60]⟩, .string ⟨#[61, 61]⟩] 34)
    simp only [World.cell?, e]
    rfl, fb1 _ _⟩
  go_region_held3 (fun w' => w'.cell? ⟨w1.heap.size, 0, none⟩ = some (.string ⟨#[43]⟩) ∧ Below w1.heap.size w1 w')
    (first
      | exact ⟨HS0.out.1, Below.drew HS0.out.2⟩
      | exact ⟨cell_bl (by go_split_ands; assumption) hbb, Below.trans (by go_split_ands; assumption) (hbb.mono (Below.size (by go_split_ands; assumption)))⟩)
    (first
      | (go_at_call 21; (with_reducible refine (HNA'.out _).mono ?_); rintro e w' ⟨A8, c8, rfl, k8, hbb⟩)
      | (go_at_call 21; (with_reducible refine (HNB'.out _).mono ?_); rintro e w' ⟨A9, c9, rfl, k9, hbb⟩)
      | (go_at_call 20; (with_reducible refine (HBN'.out _ _ _ _ _ ⟨k8.1, kidsV k8.2 hbb⟩ k9).mono ?_); rintro e w' ⟨A7, c7, rfl, k7, hbb⟩)
      | (go_at_call 20; (with_reducible refine (HBN'.out _ _ _ _ _ k8 ⟨k9.1, kidsV k9.2 hbb⟩).mono ?_); rintro e w' ⟨A7, c7, rfl, k7, hbb⟩)
      | (go_at_call 14; (with_reducible refine (HVA.out _ _ _ k7).mono ?_); rintro e w' ⟨rfl, hbb⟩))
  all_goals
    have HBE : Hid (Below w1.heap.size w1 w') := Lib.hid (by go_split_ands; assumption)
    go_wp2
    go_ret
    exact ⟨rfl, B1.out.trans (HBE.out.mono B1.out.size)⟩

set_option maxHeartbeats 8000000 in
theorem arith_1 (a b op : Int) (w : World) (hG : Glob w) (ha : rg a) (hb : rg b) (o0 : 0 ≤ op) (o1 : op ≤ 255) (hk : op % 7 = 1) : Calls Tryz.prog 5 #[.int .i64 a, .int .i64 b, .int .u8 op] w fun e w' => e = .returned (.bool true) ∧ Below w.heap.size w w' := by
  have HAW := Lib.hid (awake_any w hG)
  have hcv : binL (⟨#[45]⟩ : ByteArray).toList ⟨24, a⟩ ⟨24, b⟩ = ⟨24, wrap64 (a - b)⟩ := by
    rw [ByteArray.toList_eq]
    simp [binL, intsL, ofI, ofB, no]
  have HNA : Hid (∀ V, Calls Tryz.prog 21 #[.int .i64 a] V (GN (numT a).1 (numT a).2 (numT a).2.len V)) := Lib.hid fun V => (number_any a V ha).mono fun e w' H => by
    obtain ⟨A, c, x, y, z, d⟩ := H
    exact ⟨A, c, x, ⟨y, z.carry fun b hb => ⟨hb.2, rfl⟩⟩, d⟩
  have HNB : Hid (∀ V, Calls Tryz.prog 21 #[.int .i64 b] V (GN (numT b).1 (numT b).2 (numT b).2.len V)) := Lib.hid fun V => (number_any b V hb).mono fun e w' H => by
    obtain ⟨A, c, x, y, z, d⟩ := H
    exact ⟨A, c, x, ⟨y, z.carry fun b hb => ⟨hb.2, rfl⟩⟩, d⟩
  have HBN : Hid (∀ V A A' c c', ((numT a).2.len ≤ c ∧ Kids (Lt V.heap.size) V A (numT a).2) → ((numT b).2.len ≤ c' ∧ Kids (Lt V.heap.size) V A' (numT b).2) → Calls Tryz.prog 20 #[.string ⟨#[45]⟩, nv (numT a).1 A (numT a).2.len c, nv (numT b).1 A' (numT b).2.len c'] V fun e w' => ∃ A c, e = .returned (nv (B32 ⟨#[45]⟩) A 2 c) ∧ Kids (Lt w'.heap.size) w' A (.cons (numT a).1 (numT a).2 (.cons (numT b).1 (numT b).2 .nil)) ∧ Below V.heap.size V w') := Lib.hid fun V A A' c c' h1 h2 => (binary_any ⟨#[45]⟩ _ _ _ _ A A' c c' V h1.1 h1.2 h2.1 h2.2).mono fun e w' ⟨A, c, x, _, z, d⟩ => ⟨A, c, x, z, d⟩
  have HVA : Hid (∀ V A c, Kids (Lt V.heap.size) V A (.cons (numT a).1 (numT a).2 (.cons (numT b).1 (numT b).2 .nil)) → Calls Tryz.prog 14 #[nv (B32 ⟨#[45]⟩) A 2 c] V (RetV (wrap64 (a - b)) true V)) := Lib.hid fun V A c hk1 => by
    have := value_any (B32 ⟨#[45]⟩) (.cons (numT a).1 (numT a).2 (.cons (numT b).1 (numT b).2 .nil)) A c V hk1 (by
      have := num_small a
      have := num_small b
      simp only [Fo.dep]; omega)
    rw [show evT (B32 ⟨#[45]⟩) (.cons (numT a).1 (numT a).2 (.cons (numT b).1 (numT b).2 .nil)) = ⟨24, wrap64 (a - b)⟩ from ar_val ⟨#[45]⟩ a b ha hb _ hcv] at this
    exact this
  obtain ⟨ka, hka⟩ : ∃ x, (numT a).2 = x := ⟨_, rfl⟩
  obtain ⟨kb, hkb⟩ : ∃ x, (numT b).2 = x := ⟨_, rfl⟩
  obtain ⟨xa, hxa⟩ : ∃ x, (numT a).1 = x := ⟨_, rfl⟩
  obtain ⟨xb, hxb⟩ : ∃ x, (numT b).1 = x := ⟨_, rfl⟩
  rw [hka, hxa] at HNA HBN HVA
  rw [hkb, hxb] at HNB HBN HVA
  obtain ⟨na, hna⟩ : ∃ n, ka.len = n := ⟨_, rfl⟩
  obtain ⟨nb, hnb⟩ : ∃ n, kb.len = n := ⟨_, rfl⟩
  have HNA' : Hid (∀ V, Calls Tryz.prog 21 #[.int .i64 a] V (GN xa ka na V)) := Lib.hid (hna ▸ HNA.out)
  have HNB' : Hid (∀ V, Calls Tryz.prog 21 #[.int .i64 b] V (GN xb kb nb V)) := Lib.hid (hnb ▸ HNB.out)
  have HBN' : Hid (∀ V A A' c c', (ka.len ≤ c ∧ Kids (Lt V.heap.size) V A ka) → (kb.len ≤ c' ∧ Kids (Lt V.heap.size) V A' kb) → Calls Tryz.prog 20 #[.string ⟨#[45]⟩, nv xa A na c, nv xb A' nb c'] V fun e w' => ∃ A c, e = .returned (nv (B32 ⟨#[45]⟩) A 2 c) ∧ Kids (Lt w'.heap.size) w' A (.cons xa ka (.cons xb kb .nil)) ∧ Below V.heap.size V w') := Lib.hid fun V A A' c c' h1 h2 => by
    have := HBN.out V A A' c c' h1 h2
    rwa [hna, hnb] at this
  have er : ((wrap64 (a - b) : Int) == wrap64 (a - b)) = true := by simp
  clear hG ha hb hcv HNA HNB HBN hka hkb hxa hxb hna hnb
  go_enter Tryz.func5, Tryz.ntmps5
  go_wp2_with fail
  refine HAW.out.mono ?_
  rintro e w1 ⟨rfl, hb1⟩
  have B1 := Lib.hid hb1
  clear hb1
  go_wp2
  have HS0 : Hid ((w1.alloc (.cells #[.string ⟨#[43]⟩, .string ⟨#[45]⟩, .string ⟨#[42]⟩, .string ⟨#[47]⟩, .string ⟨#[37]⟩, .string ⟨#[60]⟩, .string ⟨#[61, 61]⟩] 34)).cell? ⟨w1.heap.size, 1, none⟩ = some (.string ⟨#[45]⟩) ∧ Below w1.heap.size w1 (w1.alloc (.cells #[.string ⟨#[43]⟩, .string ⟨#[45]⟩, .string ⟨#[42]⟩, .string ⟨#[47]⟩, .string ⟨#[37]⟩, .string ⟨#[60]⟩, .string ⟨#[61, 61]⟩] 34))) := Lib.hid ⟨by
    have e := heap_alloc_new w1 (.cells #[.string ⟨#[43]⟩, .string ⟨#[45]⟩, .string ⟨#[42]⟩, .string ⟨#[47]⟩, .string ⟨#[37]⟩, .string ⟨#[60]⟩, .string ⟨#[61, 61]⟩] 34)
    simp only [World.cell?, e]
    rfl, fb1 _ _⟩
  go_region_held3 (fun w' => w'.cell? ⟨w1.heap.size, 1, none⟩ = some (.string ⟨#[45]⟩) ∧ Below w1.heap.size w1 w')
    (first
      | exact ⟨HS0.out.1, Below.drew HS0.out.2⟩
      | exact ⟨cell_bl (by go_split_ands; assumption) hbb, Below.trans (by go_split_ands; assumption) (hbb.mono (Below.size (by go_split_ands; assumption)))⟩)
    (first
      | (go_at_call 21; (with_reducible refine (HNA'.out _).mono ?_); rintro e w' ⟨A8, c8, rfl, k8, hbb⟩)
      | (go_at_call 21; (with_reducible refine (HNB'.out _).mono ?_); rintro e w' ⟨A9, c9, rfl, k9, hbb⟩)
      | (go_at_call 20; (with_reducible refine (HBN'.out _ _ _ _ _ ⟨k8.1, kidsV k8.2 hbb⟩ k9).mono ?_); rintro e w' ⟨A7, c7, rfl, k7, hbb⟩)
      | (go_at_call 20; (with_reducible refine (HBN'.out _ _ _ _ _ k8 ⟨k9.1, kidsV k9.2 hbb⟩).mono ?_); rintro e w' ⟨A7, c7, rfl, k7, hbb⟩)
      | (go_at_call 14; (with_reducible refine (HVA.out _ _ _ k7).mono ?_); rintro e w' ⟨rfl, hbb⟩))
  all_goals
    have HBE : Hid (Below w1.heap.size w1 w') := Lib.hid (by go_split_ands; assumption)
    go_wp2
    go_ret
    exact ⟨rfl, B1.out.trans (HBE.out.mono B1.out.size)⟩

set_option maxHeartbeats 8000000 in
theorem arith_2 (a b op : Int) (w : World) (hG : Glob w) (ha : rg a) (hb : rg b) (o0 : 0 ≤ op) (o1 : op ≤ 255) (hk : op % 7 = 2) : Calls Tryz.prog 5 #[.int .i64 a, .int .i64 b, .int .u8 op] w fun e w' => e = .returned (.bool true) ∧ Below w.heap.size w w' := by
  have HAW := Lib.hid (awake_any w hG)
  have hcv : binL (⟨#[42]⟩ : ByteArray).toList ⟨24, a⟩ ⟨24, b⟩ = ⟨24, wrap64 (a * b)⟩ := by
    rw [ByteArray.toList_eq]
    simp [binL, intsL, ofI, ofB, no]
  have HNA : Hid (∀ V, Calls Tryz.prog 21 #[.int .i64 a] V (GN (numT a).1 (numT a).2 (numT a).2.len V)) := Lib.hid fun V => (number_any a V ha).mono fun e w' H => by
    obtain ⟨A, c, x, y, z, d⟩ := H
    exact ⟨A, c, x, ⟨y, z.carry fun b hb => ⟨hb.2, rfl⟩⟩, d⟩
  have HNB : Hid (∀ V, Calls Tryz.prog 21 #[.int .i64 b] V (GN (numT b).1 (numT b).2 (numT b).2.len V)) := Lib.hid fun V => (number_any b V hb).mono fun e w' H => by
    obtain ⟨A, c, x, y, z, d⟩ := H
    exact ⟨A, c, x, ⟨y, z.carry fun b hb => ⟨hb.2, rfl⟩⟩, d⟩
  have HBN : Hid (∀ V A A' c c', ((numT a).2.len ≤ c ∧ Kids (Lt V.heap.size) V A (numT a).2) → ((numT b).2.len ≤ c' ∧ Kids (Lt V.heap.size) V A' (numT b).2) → Calls Tryz.prog 20 #[.string ⟨#[42]⟩, nv (numT a).1 A (numT a).2.len c, nv (numT b).1 A' (numT b).2.len c'] V fun e w' => ∃ A c, e = .returned (nv (B32 ⟨#[42]⟩) A 2 c) ∧ Kids (Lt w'.heap.size) w' A (.cons (numT a).1 (numT a).2 (.cons (numT b).1 (numT b).2 .nil)) ∧ Below V.heap.size V w') := Lib.hid fun V A A' c c' h1 h2 => (binary_any ⟨#[42]⟩ _ _ _ _ A A' c c' V h1.1 h1.2 h2.1 h2.2).mono fun e w' ⟨A, c, x, _, z, d⟩ => ⟨A, c, x, z, d⟩
  have HVA : Hid (∀ V A c, Kids (Lt V.heap.size) V A (.cons (numT a).1 (numT a).2 (.cons (numT b).1 (numT b).2 .nil)) → Calls Tryz.prog 14 #[nv (B32 ⟨#[42]⟩) A 2 c] V (RetV (wrap64 (a * b)) true V)) := Lib.hid fun V A c hk1 => by
    have := value_any (B32 ⟨#[42]⟩) (.cons (numT a).1 (numT a).2 (.cons (numT b).1 (numT b).2 .nil)) A c V hk1 (by
      have := num_small a
      have := num_small b
      simp only [Fo.dep]; omega)
    rw [show evT (B32 ⟨#[42]⟩) (.cons (numT a).1 (numT a).2 (.cons (numT b).1 (numT b).2 .nil)) = ⟨24, wrap64 (a * b)⟩ from ar_val ⟨#[42]⟩ a b ha hb _ hcv] at this
    exact this
  obtain ⟨ka, hka⟩ : ∃ x, (numT a).2 = x := ⟨_, rfl⟩
  obtain ⟨kb, hkb⟩ : ∃ x, (numT b).2 = x := ⟨_, rfl⟩
  obtain ⟨xa, hxa⟩ : ∃ x, (numT a).1 = x := ⟨_, rfl⟩
  obtain ⟨xb, hxb⟩ : ∃ x, (numT b).1 = x := ⟨_, rfl⟩
  rw [hka, hxa] at HNA HBN HVA
  rw [hkb, hxb] at HNB HBN HVA
  obtain ⟨na, hna⟩ : ∃ n, ka.len = n := ⟨_, rfl⟩
  obtain ⟨nb, hnb⟩ : ∃ n, kb.len = n := ⟨_, rfl⟩
  have HNA' : Hid (∀ V, Calls Tryz.prog 21 #[.int .i64 a] V (GN xa ka na V)) := Lib.hid (hna ▸ HNA.out)
  have HNB' : Hid (∀ V, Calls Tryz.prog 21 #[.int .i64 b] V (GN xb kb nb V)) := Lib.hid (hnb ▸ HNB.out)
  have HBN' : Hid (∀ V A A' c c', (ka.len ≤ c ∧ Kids (Lt V.heap.size) V A ka) → (kb.len ≤ c' ∧ Kids (Lt V.heap.size) V A' kb) → Calls Tryz.prog 20 #[.string ⟨#[42]⟩, nv xa A na c, nv xb A' nb c'] V fun e w' => ∃ A c, e = .returned (nv (B32 ⟨#[42]⟩) A 2 c) ∧ Kids (Lt w'.heap.size) w' A (.cons xa ka (.cons xb kb .nil)) ∧ Below V.heap.size V w') := Lib.hid fun V A A' c c' h1 h2 => by
    have := HBN.out V A A' c c' h1 h2
    rwa [hna, hnb] at this
  have er : ((wrap64 (a * b) : Int) == wrap64 (a * b)) = true := by simp
  clear hG ha hb hcv HNA HNB HBN hka hkb hxa hxb hna hnb
  go_enter Tryz.func5, Tryz.ntmps5
  go_wp2_with fail
  refine HAW.out.mono ?_
  rintro e w1 ⟨rfl, hb1⟩
  have B1 := Lib.hid hb1
  clear hb1
  go_wp2
  have HS0 : Hid ((w1.alloc (.cells #[.string ⟨#[43]⟩, .string ⟨#[45]⟩, .string ⟨#[42]⟩, .string ⟨#[47]⟩, .string ⟨#[37]⟩, .string ⟨#[60]⟩, .string ⟨#[61, 61]⟩] 34)).cell? ⟨w1.heap.size, 2, none⟩ = some (.string ⟨#[42]⟩) ∧ Below w1.heap.size w1 (w1.alloc (.cells #[.string ⟨#[43]⟩, .string ⟨#[45]⟩, .string ⟨#[42]⟩, .string ⟨#[47]⟩, .string ⟨#[37]⟩, .string ⟨#[60]⟩, .string ⟨#[61, 61]⟩] 34))) := Lib.hid ⟨by
    have e := heap_alloc_new w1 (.cells #[.string ⟨#[43]⟩, .string ⟨#[45]⟩, .string ⟨#[42]⟩, .string ⟨#[47]⟩, .string ⟨#[37]⟩, .string ⟨#[60]⟩, .string ⟨#[61, 61]⟩] 34)
    simp only [World.cell?, e]
    rfl, fb1 _ _⟩
  go_region_held3 (fun w' => w'.cell? ⟨w1.heap.size, 2, none⟩ = some (.string ⟨#[42]⟩) ∧ Below w1.heap.size w1 w')
    (first
      | exact ⟨HS0.out.1, Below.drew HS0.out.2⟩
      | exact ⟨cell_bl (by go_split_ands; assumption) hbb, Below.trans (by go_split_ands; assumption) (hbb.mono (Below.size (by go_split_ands; assumption)))⟩)
    (first
      | (go_at_call 21; (with_reducible refine (HNA'.out _).mono ?_); rintro e w' ⟨A8, c8, rfl, k8, hbb⟩)
      | (go_at_call 21; (with_reducible refine (HNB'.out _).mono ?_); rintro e w' ⟨A9, c9, rfl, k9, hbb⟩)
      | (go_at_call 20; (with_reducible refine (HBN'.out _ _ _ _ _ ⟨k8.1, kidsV k8.2 hbb⟩ k9).mono ?_); rintro e w' ⟨A7, c7, rfl, k7, hbb⟩)
      | (go_at_call 20; (with_reducible refine (HBN'.out _ _ _ _ _ k8 ⟨k9.1, kidsV k9.2 hbb⟩).mono ?_); rintro e w' ⟨A7, c7, rfl, k7, hbb⟩)
      | (go_at_call 14; (with_reducible refine (HVA.out _ _ _ k7).mono ?_); rintro e w' ⟨rfl, hbb⟩))
  all_goals
    have HBE : Hid (Below w1.heap.size w1 w') := Lib.hid (by go_split_ands; assumption)
    go_wp2
    go_ret
    exact ⟨rfl, B1.out.trans (HBE.out.mono B1.out.size)⟩

set_option maxHeartbeats 8000000 in
theorem arith_3n (a b op : Int) (w : World) (hG : Glob w) (ha : rg a) (hb : rg b) (o0 : 0 ≤ op) (o1 : op ≤ 255) (hk : op % 7 = 3) (h0 : ¬ b = 0) (h1 : (b == 0) = false) (h2 : (b != 0) = true) : Calls Tryz.prog 5 #[.int .i64 a, .int .i64 b, .int .u8 op] w fun e w' => e = .returned (.bool true) ∧ Below w.heap.size w w' := by
  have HAW := Lib.hid (awake_any w hG)
  have hcv : binL (⟨#[47]⟩ : ByteArray).toList ⟨24, a⟩ ⟨24, b⟩ = ⟨24, wrap64 (a.tdiv b)⟩ := by
    rw [ByteArray.toList_eq]
    simp [binL, intsL, ofI, ofB, no, h0]
  have HNA : Hid (∀ V, Calls Tryz.prog 21 #[.int .i64 a] V (GN (numT a).1 (numT a).2 (numT a).2.len V)) := Lib.hid fun V => (number_any a V ha).mono fun e w' H => by
    obtain ⟨A, c, x, y, z, d⟩ := H
    exact ⟨A, c, x, ⟨y, z.carry fun b hb => ⟨hb.2, rfl⟩⟩, d⟩
  have HNB : Hid (∀ V, Calls Tryz.prog 21 #[.int .i64 b] V (GN (numT b).1 (numT b).2 (numT b).2.len V)) := Lib.hid fun V => (number_any b V hb).mono fun e w' H => by
    obtain ⟨A, c, x, y, z, d⟩ := H
    exact ⟨A, c, x, ⟨y, z.carry fun b hb => ⟨hb.2, rfl⟩⟩, d⟩
  have HBN : Hid (∀ V A A' c c', ((numT a).2.len ≤ c ∧ Kids (Lt V.heap.size) V A (numT a).2) → ((numT b).2.len ≤ c' ∧ Kids (Lt V.heap.size) V A' (numT b).2) → Calls Tryz.prog 20 #[.string ⟨#[47]⟩, nv (numT a).1 A (numT a).2.len c, nv (numT b).1 A' (numT b).2.len c'] V fun e w' => ∃ A c, e = .returned (nv (B32 ⟨#[47]⟩) A 2 c) ∧ Kids (Lt w'.heap.size) w' A (.cons (numT a).1 (numT a).2 (.cons (numT b).1 (numT b).2 .nil)) ∧ Below V.heap.size V w') := Lib.hid fun V A A' c c' h1 h2 => (binary_any ⟨#[47]⟩ _ _ _ _ A A' c c' V h1.1 h1.2 h2.1 h2.2).mono fun e w' ⟨A, c, x, _, z, d⟩ => ⟨A, c, x, z, d⟩
  have HVA : Hid (∀ V A c, Kids (Lt V.heap.size) V A (.cons (numT a).1 (numT a).2 (.cons (numT b).1 (numT b).2 .nil)) → Calls Tryz.prog 14 #[nv (B32 ⟨#[47]⟩) A 2 c] V (RetV (wrap64 (a.tdiv b)) true V)) := Lib.hid fun V A c hk1 => by
    have := value_any (B32 ⟨#[47]⟩) (.cons (numT a).1 (numT a).2 (.cons (numT b).1 (numT b).2 .nil)) A c V hk1 (by
      have := num_small a
      have := num_small b
      simp only [Fo.dep]; omega)
    rw [show evT (B32 ⟨#[47]⟩) (.cons (numT a).1 (numT a).2 (.cons (numT b).1 (numT b).2 .nil)) = ⟨24, wrap64 (a.tdiv b)⟩ from ar_val ⟨#[47]⟩ a b ha hb _ hcv] at this
    exact this
  obtain ⟨ka, hka⟩ : ∃ x, (numT a).2 = x := ⟨_, rfl⟩
  obtain ⟨kb, hkb⟩ : ∃ x, (numT b).2 = x := ⟨_, rfl⟩
  obtain ⟨xa, hxa⟩ : ∃ x, (numT a).1 = x := ⟨_, rfl⟩
  obtain ⟨xb, hxb⟩ : ∃ x, (numT b).1 = x := ⟨_, rfl⟩
  rw [hka, hxa] at HNA HBN HVA
  rw [hkb, hxb] at HNB HBN HVA
  obtain ⟨na, hna⟩ : ∃ n, ka.len = n := ⟨_, rfl⟩
  obtain ⟨nb, hnb⟩ : ∃ n, kb.len = n := ⟨_, rfl⟩
  have HNA' : Hid (∀ V, Calls Tryz.prog 21 #[.int .i64 a] V (GN xa ka na V)) := Lib.hid (hna ▸ HNA.out)
  have HNB' : Hid (∀ V, Calls Tryz.prog 21 #[.int .i64 b] V (GN xb kb nb V)) := Lib.hid (hnb ▸ HNB.out)
  have HBN' : Hid (∀ V A A' c c', (ka.len ≤ c ∧ Kids (Lt V.heap.size) V A ka) → (kb.len ≤ c' ∧ Kids (Lt V.heap.size) V A' kb) → Calls Tryz.prog 20 #[.string ⟨#[47]⟩, nv xa A na c, nv xb A' nb c'] V fun e w' => ∃ A c, e = .returned (nv (B32 ⟨#[47]⟩) A 2 c) ∧ Kids (Lt w'.heap.size) w' A (.cons xa ka (.cons xb kb .nil)) ∧ Below V.heap.size V w') := Lib.hid fun V A A' c c' h1 h2 => by
    have := HBN.out V A A' c c' h1 h2
    rwa [hna, hnb] at this
  have er : ((wrap64 (a.tdiv b) : Int) == wrap64 (a.tdiv b)) = true := by simp
  clear hG ha hb hcv HNA HNB HBN hka hkb hxa hxb hna hnb
  go_enter Tryz.func5, Tryz.ntmps5
  go_wp2_with fail
  refine HAW.out.mono ?_
  rintro e w1 ⟨rfl, hb1⟩
  have B1 := Lib.hid hb1
  clear hb1
  go_wp2
  have HS0 : Hid ((w1.alloc (.cells #[.string ⟨#[43]⟩, .string ⟨#[45]⟩, .string ⟨#[42]⟩, .string ⟨#[47]⟩, .string ⟨#[37]⟩, .string ⟨#[60]⟩, .string ⟨#[61, 61]⟩] 34)).cell? ⟨w1.heap.size, 3, none⟩ = some (.string ⟨#[47]⟩) ∧ Below w1.heap.size w1 (w1.alloc (.cells #[.string ⟨#[43]⟩, .string ⟨#[45]⟩, .string ⟨#[42]⟩, .string ⟨#[47]⟩, .string ⟨#[37]⟩, .string ⟨#[60]⟩, .string ⟨#[61, 61]⟩] 34))) := Lib.hid ⟨by
    have e := heap_alloc_new w1 (.cells #[.string ⟨#[43]⟩, .string ⟨#[45]⟩, .string ⟨#[42]⟩, .string ⟨#[47]⟩, .string ⟨#[37]⟩, .string ⟨#[60]⟩, .string ⟨#[61, 61]⟩] 34)
    simp only [World.cell?, e]
    rfl, fb1 _ _⟩
  go_region_held3 (fun w' => w'.cell? ⟨w1.heap.size, 3, none⟩ = some (.string ⟨#[47]⟩) ∧ Below w1.heap.size w1 w')
    (first
      | exact ⟨HS0.out.1, Below.drew HS0.out.2⟩
      | exact ⟨cell_bl (by go_split_ands; assumption) hbb, Below.trans (by go_split_ands; assumption) (hbb.mono (Below.size (by go_split_ands; assumption)))⟩)
    (first
      | (go_at_call 21; (with_reducible refine (HNA'.out _).mono ?_); rintro e w' ⟨A8, c8, rfl, k8, hbb⟩)
      | (go_at_call 21; (with_reducible refine (HNB'.out _).mono ?_); rintro e w' ⟨A9, c9, rfl, k9, hbb⟩)
      | (go_at_call 20; (with_reducible refine (HBN'.out _ _ _ _ _ ⟨k8.1, kidsV k8.2 hbb⟩ k9).mono ?_); rintro e w' ⟨A7, c7, rfl, k7, hbb⟩)
      | (go_at_call 20; (with_reducible refine (HBN'.out _ _ _ _ _ k8 ⟨k9.1, kidsV k9.2 hbb⟩).mono ?_); rintro e w' ⟨A7, c7, rfl, k7, hbb⟩)
      | (go_at_call 14; (with_reducible refine (HVA.out _ _ _ k7).mono ?_); rintro e w' ⟨rfl, hbb⟩))
  all_goals
    have HBE : Hid (Below w1.heap.size w1 w') := Lib.hid (by go_split_ands; assumption)
    go_wp2
    go_ret
    exact ⟨rfl, B1.out.trans (HBE.out.mono B1.out.size)⟩

set_option maxHeartbeats 8000000 in
theorem arith_4n (a b op : Int) (w : World) (hG : Glob w) (ha : rg a) (hb : rg b) (o0 : 0 ≤ op) (o1 : op ≤ 255) (hk : op % 7 = 4) (h0 : ¬ b = 0) (h1 : (b == 0) = false) (h2 : (b != 0) = true) : Calls Tryz.prog 5 #[.int .i64 a, .int .i64 b, .int .u8 op] w fun e w' => e = .returned (.bool true) ∧ Below w.heap.size w w' := by
  have HAW := Lib.hid (awake_any w hG)
  have hcv : binL (⟨#[37]⟩ : ByteArray).toList ⟨24, a⟩ ⟨24, b⟩ = ⟨24, a.tmod b⟩ := by
    rw [ByteArray.toList_eq]
    simp [binL, intsL, ofI, ofB, no, h0]
  have HNA : Hid (∀ V, Calls Tryz.prog 21 #[.int .i64 a] V (GN (numT a).1 (numT a).2 (numT a).2.len V)) := Lib.hid fun V => (number_any a V ha).mono fun e w' H => by
    obtain ⟨A, c, x, y, z, d⟩ := H
    exact ⟨A, c, x, ⟨y, z.carry fun b hb => ⟨hb.2, rfl⟩⟩, d⟩
  have HNB : Hid (∀ V, Calls Tryz.prog 21 #[.int .i64 b] V (GN (numT b).1 (numT b).2 (numT b).2.len V)) := Lib.hid fun V => (number_any b V hb).mono fun e w' H => by
    obtain ⟨A, c, x, y, z, d⟩ := H
    exact ⟨A, c, x, ⟨y, z.carry fun b hb => ⟨hb.2, rfl⟩⟩, d⟩
  have HBN : Hid (∀ V A A' c c', ((numT a).2.len ≤ c ∧ Kids (Lt V.heap.size) V A (numT a).2) → ((numT b).2.len ≤ c' ∧ Kids (Lt V.heap.size) V A' (numT b).2) → Calls Tryz.prog 20 #[.string ⟨#[37]⟩, nv (numT a).1 A (numT a).2.len c, nv (numT b).1 A' (numT b).2.len c'] V fun e w' => ∃ A c, e = .returned (nv (B32 ⟨#[37]⟩) A 2 c) ∧ Kids (Lt w'.heap.size) w' A (.cons (numT a).1 (numT a).2 (.cons (numT b).1 (numT b).2 .nil)) ∧ Below V.heap.size V w') := Lib.hid fun V A A' c c' h1 h2 => (binary_any ⟨#[37]⟩ _ _ _ _ A A' c c' V h1.1 h1.2 h2.1 h2.2).mono fun e w' ⟨A, c, x, _, z, d⟩ => ⟨A, c, x, z, d⟩
  have HVA : Hid (∀ V A c, Kids (Lt V.heap.size) V A (.cons (numT a).1 (numT a).2 (.cons (numT b).1 (numT b).2 .nil)) → Calls Tryz.prog 14 #[nv (B32 ⟨#[37]⟩) A 2 c] V (RetV (a.tmod b) true V)) := Lib.hid fun V A c hk1 => by
    have := value_any (B32 ⟨#[37]⟩) (.cons (numT a).1 (numT a).2 (.cons (numT b).1 (numT b).2 .nil)) A c V hk1 (by
      have := num_small a
      have := num_small b
      simp only [Fo.dep]; omega)
    rw [show evT (B32 ⟨#[37]⟩) (.cons (numT a).1 (numT a).2 (.cons (numT b).1 (numT b).2 .nil)) = ⟨24, a.tmod b⟩ from ar_val ⟨#[37]⟩ a b ha hb _ hcv] at this
    exact this
  obtain ⟨ka, hka⟩ : ∃ x, (numT a).2 = x := ⟨_, rfl⟩
  obtain ⟨kb, hkb⟩ : ∃ x, (numT b).2 = x := ⟨_, rfl⟩
  obtain ⟨xa, hxa⟩ : ∃ x, (numT a).1 = x := ⟨_, rfl⟩
  obtain ⟨xb, hxb⟩ : ∃ x, (numT b).1 = x := ⟨_, rfl⟩
  rw [hka, hxa] at HNA HBN HVA
  rw [hkb, hxb] at HNB HBN HVA
  obtain ⟨na, hna⟩ : ∃ n, ka.len = n := ⟨_, rfl⟩
  obtain ⟨nb, hnb⟩ : ∃ n, kb.len = n := ⟨_, rfl⟩
  have HNA' : Hid (∀ V, Calls Tryz.prog 21 #[.int .i64 a] V (GN xa ka na V)) := Lib.hid (hna ▸ HNA.out)
  have HNB' : Hid (∀ V, Calls Tryz.prog 21 #[.int .i64 b] V (GN xb kb nb V)) := Lib.hid (hnb ▸ HNB.out)
  have HBN' : Hid (∀ V A A' c c', (ka.len ≤ c ∧ Kids (Lt V.heap.size) V A ka) → (kb.len ≤ c' ∧ Kids (Lt V.heap.size) V A' kb) → Calls Tryz.prog 20 #[.string ⟨#[37]⟩, nv xa A na c, nv xb A' nb c'] V fun e w' => ∃ A c, e = .returned (nv (B32 ⟨#[37]⟩) A 2 c) ∧ Kids (Lt w'.heap.size) w' A (.cons xa ka (.cons xb kb .nil)) ∧ Below V.heap.size V w') := Lib.hid fun V A A' c c' h1 h2 => by
    have := HBN.out V A A' c c' h1 h2
    rwa [hna, hnb] at this
  have er : ((a.tmod b : Int) == a.tmod b) = true := by simp
  clear hG ha hb hcv HNA HNB HBN hka hkb hxa hxb hna hnb
  go_enter Tryz.func5, Tryz.ntmps5
  go_wp2_with fail
  refine HAW.out.mono ?_
  rintro e w1 ⟨rfl, hb1⟩
  have B1 := Lib.hid hb1
  clear hb1
  go_wp2
  have HS0 : Hid ((w1.alloc (.cells #[.string ⟨#[43]⟩, .string ⟨#[45]⟩, .string ⟨#[42]⟩, .string ⟨#[47]⟩, .string ⟨#[37]⟩, .string ⟨#[60]⟩, .string ⟨#[61, 61]⟩] 34)).cell? ⟨w1.heap.size, 4, none⟩ = some (.string ⟨#[37]⟩) ∧ Below w1.heap.size w1 (w1.alloc (.cells #[.string ⟨#[43]⟩, .string ⟨#[45]⟩, .string ⟨#[42]⟩, .string ⟨#[47]⟩, .string ⟨#[37]⟩, .string ⟨#[60]⟩, .string ⟨#[61, 61]⟩] 34))) := Lib.hid ⟨by
    have e := heap_alloc_new w1 (.cells #[.string ⟨#[43]⟩, .string ⟨#[45]⟩, .string ⟨#[42]⟩, .string ⟨#[47]⟩, .string ⟨#[37]⟩, .string ⟨#[60]⟩, .string ⟨#[61, 61]⟩] 34)
    simp only [World.cell?, e]
    rfl, fb1 _ _⟩
  go_region_held3 (fun w' => w'.cell? ⟨w1.heap.size, 4, none⟩ = some (.string ⟨#[37]⟩) ∧ Below w1.heap.size w1 w')
    (first
      | exact ⟨HS0.out.1, Below.drew HS0.out.2⟩
      | exact ⟨cell_bl (by go_split_ands; assumption) hbb, Below.trans (by go_split_ands; assumption) (hbb.mono (Below.size (by go_split_ands; assumption)))⟩)
    (first
      | (go_at_call 21; (with_reducible refine (HNA'.out _).mono ?_); rintro e w' ⟨A8, c8, rfl, k8, hbb⟩)
      | (go_at_call 21; (with_reducible refine (HNB'.out _).mono ?_); rintro e w' ⟨A9, c9, rfl, k9, hbb⟩)
      | (go_at_call 20; (with_reducible refine (HBN'.out _ _ _ _ _ ⟨k8.1, kidsV k8.2 hbb⟩ k9).mono ?_); rintro e w' ⟨A7, c7, rfl, k7, hbb⟩)
      | (go_at_call 20; (with_reducible refine (HBN'.out _ _ _ _ _ k8 ⟨k9.1, kidsV k9.2 hbb⟩).mono ?_); rintro e w' ⟨A7, c7, rfl, k7, hbb⟩)
      | (go_at_call 14; (with_reducible refine (HVA.out _ _ _ k7).mono ?_); rintro e w' ⟨rfl, hbb⟩))
  all_goals
    have HBE : Hid (Below w1.heap.size w1 w') := Lib.hid (by go_split_ands; assumption)
    go_wp2
    go_ret
    exact ⟨rfl, B1.out.trans (HBE.out.mono B1.out.size)⟩

set_option maxHeartbeats 8000000 in
theorem arith_5t (a b op : Int) (w : World) (hG : Glob w) (ha : rg a) (hb : rg b) (o0 : 0 ≤ op) (o1 : op ≤ 255) (hk : op % 7 = 5) (h0 : decide (a < b) = true) : Calls Tryz.prog 5 #[.int .i64 a, .int .i64 b, .int .u8 op] w fun e w' => e = .returned (.bool true) ∧ Below w.heap.size w w' := by
  have HAW := Lib.hid (awake_any w hG)
  have hcv : binL (⟨#[60]⟩ : ByteArray).toList ⟨24, a⟩ ⟨24, b⟩ = ⟨25, 1⟩ := by
    rw [ByteArray.toList_eq]
    simp [binL, intsL, ofI, ofB, no, show a < b from of_decide_eq_true h0]
  have HNA : Hid (∀ V, Calls Tryz.prog 21 #[.int .i64 a] V (GN (numT a).1 (numT a).2 (numT a).2.len V)) := Lib.hid fun V => (number_any a V ha).mono fun e w' H => by
    obtain ⟨A, c, x, y, z, d⟩ := H
    exact ⟨A, c, x, ⟨y, z.carry fun b hb => ⟨hb.2, rfl⟩⟩, d⟩
  have HNB : Hid (∀ V, Calls Tryz.prog 21 #[.int .i64 b] V (GN (numT b).1 (numT b).2 (numT b).2.len V)) := Lib.hid fun V => (number_any b V hb).mono fun e w' H => by
    obtain ⟨A, c, x, y, z, d⟩ := H
    exact ⟨A, c, x, ⟨y, z.carry fun b hb => ⟨hb.2, rfl⟩⟩, d⟩
  have HBN : Hid (∀ V A A' c c', ((numT a).2.len ≤ c ∧ Kids (Lt V.heap.size) V A (numT a).2) → ((numT b).2.len ≤ c' ∧ Kids (Lt V.heap.size) V A' (numT b).2) → Calls Tryz.prog 20 #[.string ⟨#[60]⟩, nv (numT a).1 A (numT a).2.len c, nv (numT b).1 A' (numT b).2.len c'] V fun e w' => ∃ A c, e = .returned (nv (B32 ⟨#[60]⟩) A 2 c) ∧ Kids (Lt w'.heap.size) w' A (.cons (numT a).1 (numT a).2 (.cons (numT b).1 (numT b).2 .nil)) ∧ Below V.heap.size V w') := Lib.hid fun V A A' c c' h1 h2 => (binary_any ⟨#[60]⟩ _ _ _ _ A A' c c' V h1.1 h1.2 h2.1 h2.2).mono fun e w' ⟨A, c, x, _, z, d⟩ => ⟨A, c, x, z, d⟩
  have HVA : Hid (∀ V A c, Kids (Lt V.heap.size) V A (.cons (numT a).1 (numT a).2 (.cons (numT b).1 (numT b).2 .nil)) → Calls Tryz.prog 14 #[nv (B32 ⟨#[60]⟩) A 2 c] V (RetV 1 true V)) := Lib.hid fun V A c hk1 => by
    have := value_any (B32 ⟨#[60]⟩) (.cons (numT a).1 (numT a).2 (.cons (numT b).1 (numT b).2 .nil)) A c V hk1 (by
      have := num_small a
      have := num_small b
      simp only [Fo.dep]; omega)
    rw [show evT (B32 ⟨#[60]⟩) (.cons (numT a).1 (numT a).2 (.cons (numT b).1 (numT b).2 .nil)) = ⟨25, 1⟩ from ar_val ⟨#[60]⟩ a b ha hb _ hcv] at this
    exact this
  obtain ⟨ka, hka⟩ : ∃ x, (numT a).2 = x := ⟨_, rfl⟩
  obtain ⟨kb, hkb⟩ : ∃ x, (numT b).2 = x := ⟨_, rfl⟩
  obtain ⟨xa, hxa⟩ : ∃ x, (numT a).1 = x := ⟨_, rfl⟩
  obtain ⟨xb, hxb⟩ : ∃ x, (numT b).1 = x := ⟨_, rfl⟩
  rw [hka, hxa] at HNA HBN HVA
  rw [hkb, hxb] at HNB HBN HVA
  obtain ⟨na, hna⟩ : ∃ n, ka.len = n := ⟨_, rfl⟩
  obtain ⟨nb, hnb⟩ : ∃ n, kb.len = n := ⟨_, rfl⟩
  have HNA' : Hid (∀ V, Calls Tryz.prog 21 #[.int .i64 a] V (GN xa ka na V)) := Lib.hid (hna ▸ HNA.out)
  have HNB' : Hid (∀ V, Calls Tryz.prog 21 #[.int .i64 b] V (GN xb kb nb V)) := Lib.hid (hnb ▸ HNB.out)
  have HBN' : Hid (∀ V A A' c c', (ka.len ≤ c ∧ Kids (Lt V.heap.size) V A ka) → (kb.len ≤ c' ∧ Kids (Lt V.heap.size) V A' kb) → Calls Tryz.prog 20 #[.string ⟨#[60]⟩, nv xa A na c, nv xb A' nb c'] V fun e w' => ∃ A c, e = .returned (nv (B32 ⟨#[60]⟩) A 2 c) ∧ Kids (Lt w'.heap.size) w' A (.cons xa ka (.cons xb kb .nil)) ∧ Below V.heap.size V w') := Lib.hid fun V A A' c c' h1 h2 => by
    have := HBN.out V A A' c c' h1 h2
    rwa [hna, hnb] at this
  clear hG ha hb hcv HNA HNB HBN hka hkb hxa hxb hna hnb
  go_enter Tryz.func5, Tryz.ntmps5
  go_wp2_with fail
  refine HAW.out.mono ?_
  rintro e w1 ⟨rfl, hb1⟩
  have B1 := Lib.hid hb1
  clear hb1
  go_wp2
  have HS0 : Hid ((w1.alloc (.cells #[.string ⟨#[43]⟩, .string ⟨#[45]⟩, .string ⟨#[42]⟩, .string ⟨#[47]⟩, .string ⟨#[37]⟩, .string ⟨#[60]⟩, .string ⟨#[61, 61]⟩] 34)).cell? ⟨w1.heap.size, 5, none⟩ = some (.string ⟨#[60]⟩) ∧ Below w1.heap.size w1 (w1.alloc (.cells #[.string ⟨#[43]⟩, .string ⟨#[45]⟩, .string ⟨#[42]⟩, .string ⟨#[47]⟩, .string ⟨#[37]⟩, .string ⟨#[60]⟩, .string ⟨#[61, 61]⟩] 34))) := Lib.hid ⟨by
    have e := heap_alloc_new w1 (.cells #[.string ⟨#[43]⟩, .string ⟨#[45]⟩, .string ⟨#[42]⟩, .string ⟨#[47]⟩, .string ⟨#[37]⟩, .string ⟨#[60]⟩, .string ⟨#[61, 61]⟩] 34)
    simp only [World.cell?, e]
    rfl, fb1 _ _⟩
  go_region_held3 (fun w' => w'.cell? ⟨w1.heap.size, 5, none⟩ = some (.string ⟨#[60]⟩) ∧ Below w1.heap.size w1 w')
    (first
      | exact ⟨HS0.out.1, Below.drew HS0.out.2⟩
      | exact ⟨cell_bl (by go_split_ands; assumption) hbb, Below.trans (by go_split_ands; assumption) (hbb.mono (Below.size (by go_split_ands; assumption)))⟩)
    (first
      | (go_at_call 21; (with_reducible refine (HNA'.out _).mono ?_); rintro e w' ⟨A8, c8, rfl, k8, hbb⟩)
      | (go_at_call 21; (with_reducible refine (HNB'.out _).mono ?_); rintro e w' ⟨A9, c9, rfl, k9, hbb⟩)
      | (go_at_call 20; (with_reducible refine (HBN'.out _ _ _ _ _ ⟨k8.1, kidsV k8.2 hbb⟩ k9).mono ?_); rintro e w' ⟨A7, c7, rfl, k7, hbb⟩)
      | (go_at_call 20; (with_reducible refine (HBN'.out _ _ _ _ _ k8 ⟨k9.1, kidsV k9.2 hbb⟩).mono ?_); rintro e w' ⟨A7, c7, rfl, k7, hbb⟩)
      | (go_at_call 14; (with_reducible refine (HVA.out _ _ _ k7).mono ?_); rintro e w' ⟨rfl, hbb⟩))
  all_goals
    have HBE : Hid (Below w1.heap.size w1 w') := Lib.hid (by go_split_ands; assumption)
    go_wp2
    go_ret
    exact ⟨rfl, B1.out.trans (HBE.out.mono B1.out.size)⟩

set_option maxHeartbeats 8000000 in
theorem arith_5f (a b op : Int) (w : World) (hG : Glob w) (ha : rg a) (hb : rg b) (o0 : 0 ≤ op) (o1 : op ≤ 255) (hk : op % 7 = 5) (h0 : decide (a < b) = false) : Calls Tryz.prog 5 #[.int .i64 a, .int .i64 b, .int .u8 op] w fun e w' => e = .returned (.bool true) ∧ Below w.heap.size w w' := by
  have HAW := Lib.hid (awake_any w hG)
  have hcv : binL (⟨#[60]⟩ : ByteArray).toList ⟨24, a⟩ ⟨24, b⟩ = ⟨25, 0⟩ := by
    rw [ByteArray.toList_eq]
    simp [binL, intsL, ofI, ofB, no, show ¬ a < b from of_decide_eq_false h0]
  have HNA : Hid (∀ V, Calls Tryz.prog 21 #[.int .i64 a] V (GN (numT a).1 (numT a).2 (numT a).2.len V)) := Lib.hid fun V => (number_any a V ha).mono fun e w' H => by
    obtain ⟨A, c, x, y, z, d⟩ := H
    exact ⟨A, c, x, ⟨y, z.carry fun b hb => ⟨hb.2, rfl⟩⟩, d⟩
  have HNB : Hid (∀ V, Calls Tryz.prog 21 #[.int .i64 b] V (GN (numT b).1 (numT b).2 (numT b).2.len V)) := Lib.hid fun V => (number_any b V hb).mono fun e w' H => by
    obtain ⟨A, c, x, y, z, d⟩ := H
    exact ⟨A, c, x, ⟨y, z.carry fun b hb => ⟨hb.2, rfl⟩⟩, d⟩
  have HBN : Hid (∀ V A A' c c', ((numT a).2.len ≤ c ∧ Kids (Lt V.heap.size) V A (numT a).2) → ((numT b).2.len ≤ c' ∧ Kids (Lt V.heap.size) V A' (numT b).2) → Calls Tryz.prog 20 #[.string ⟨#[60]⟩, nv (numT a).1 A (numT a).2.len c, nv (numT b).1 A' (numT b).2.len c'] V fun e w' => ∃ A c, e = .returned (nv (B32 ⟨#[60]⟩) A 2 c) ∧ Kids (Lt w'.heap.size) w' A (.cons (numT a).1 (numT a).2 (.cons (numT b).1 (numT b).2 .nil)) ∧ Below V.heap.size V w') := Lib.hid fun V A A' c c' h1 h2 => (binary_any ⟨#[60]⟩ _ _ _ _ A A' c c' V h1.1 h1.2 h2.1 h2.2).mono fun e w' ⟨A, c, x, _, z, d⟩ => ⟨A, c, x, z, d⟩
  have HVA : Hid (∀ V A c, Kids (Lt V.heap.size) V A (.cons (numT a).1 (numT a).2 (.cons (numT b).1 (numT b).2 .nil)) → Calls Tryz.prog 14 #[nv (B32 ⟨#[60]⟩) A 2 c] V (RetV 0 true V)) := Lib.hid fun V A c hk1 => by
    have := value_any (B32 ⟨#[60]⟩) (.cons (numT a).1 (numT a).2 (.cons (numT b).1 (numT b).2 .nil)) A c V hk1 (by
      have := num_small a
      have := num_small b
      simp only [Fo.dep]; omega)
    rw [show evT (B32 ⟨#[60]⟩) (.cons (numT a).1 (numT a).2 (.cons (numT b).1 (numT b).2 .nil)) = ⟨25, 0⟩ from ar_val ⟨#[60]⟩ a b ha hb _ hcv] at this
    exact this
  obtain ⟨ka, hka⟩ : ∃ x, (numT a).2 = x := ⟨_, rfl⟩
  obtain ⟨kb, hkb⟩ : ∃ x, (numT b).2 = x := ⟨_, rfl⟩
  obtain ⟨xa, hxa⟩ : ∃ x, (numT a).1 = x := ⟨_, rfl⟩
  obtain ⟨xb, hxb⟩ : ∃ x, (numT b).1 = x := ⟨_, rfl⟩
  rw [hka, hxa] at HNA HBN HVA
  rw [hkb, hxb] at HNB HBN HVA
  obtain ⟨na, hna⟩ : ∃ n, ka.len = n := ⟨_, rfl⟩
  obtain ⟨nb, hnb⟩ : ∃ n, kb.len = n := ⟨_, rfl⟩
  have HNA' : Hid (∀ V, Calls Tryz.prog 21 #[.int .i64 a] V (GN xa ka na V)) := Lib.hid (hna ▸ HNA.out)
  have HNB' : Hid (∀ V, Calls Tryz.prog 21 #[.int .i64 b] V (GN xb kb nb V)) := Lib.hid (hnb ▸ HNB.out)
  have HBN' : Hid (∀ V A A' c c', (ka.len ≤ c ∧ Kids (Lt V.heap.size) V A ka) → (kb.len ≤ c' ∧ Kids (Lt V.heap.size) V A' kb) → Calls Tryz.prog 20 #[.string ⟨#[60]⟩, nv xa A na c, nv xb A' nb c'] V fun e w' => ∃ A c, e = .returned (nv (B32 ⟨#[60]⟩) A 2 c) ∧ Kids (Lt w'.heap.size) w' A (.cons xa ka (.cons xb kb .nil)) ∧ Below V.heap.size V w') := Lib.hid fun V A A' c c' h1 h2 => by
    have := HBN.out V A A' c c' h1 h2
    rwa [hna, hnb] at this
  clear hG ha hb hcv HNA HNB HBN hka hkb hxa hxb hna hnb
  go_enter Tryz.func5, Tryz.ntmps5
  go_wp2_with fail
  refine HAW.out.mono ?_
  rintro e w1 ⟨rfl, hb1⟩
  have B1 := Lib.hid hb1
  clear hb1
  go_wp2
  have HS0 : Hid ((w1.alloc (.cells #[.string ⟨#[43]⟩, .string ⟨#[45]⟩, .string ⟨#[42]⟩, .string ⟨#[47]⟩, .string ⟨#[37]⟩, .string ⟨#[60]⟩, .string ⟨#[61, 61]⟩] 34)).cell? ⟨w1.heap.size, 5, none⟩ = some (.string ⟨#[60]⟩) ∧ Below w1.heap.size w1 (w1.alloc (.cells #[.string ⟨#[43]⟩, .string ⟨#[45]⟩, .string ⟨#[42]⟩, .string ⟨#[47]⟩, .string ⟨#[37]⟩, .string ⟨#[60]⟩, .string ⟨#[61, 61]⟩] 34))) := Lib.hid ⟨by
    have e := heap_alloc_new w1 (.cells #[.string ⟨#[43]⟩, .string ⟨#[45]⟩, .string ⟨#[42]⟩, .string ⟨#[47]⟩, .string ⟨#[37]⟩, .string ⟨#[60]⟩, .string ⟨#[61, 61]⟩] 34)
    simp only [World.cell?, e]
    rfl, fb1 _ _⟩
  go_region_held3 (fun w' => w'.cell? ⟨w1.heap.size, 5, none⟩ = some (.string ⟨#[60]⟩) ∧ Below w1.heap.size w1 w')
    (first
      | exact ⟨HS0.out.1, Below.drew HS0.out.2⟩
      | exact ⟨cell_bl (by go_split_ands; assumption) hbb, Below.trans (by go_split_ands; assumption) (hbb.mono (Below.size (by go_split_ands; assumption)))⟩)
    (first
      | (go_at_call 21; (with_reducible refine (HNA'.out _).mono ?_); rintro e w' ⟨A8, c8, rfl, k8, hbb⟩)
      | (go_at_call 21; (with_reducible refine (HNB'.out _).mono ?_); rintro e w' ⟨A9, c9, rfl, k9, hbb⟩)
      | (go_at_call 20; (with_reducible refine (HBN'.out _ _ _ _ _ ⟨k8.1, kidsV k8.2 hbb⟩ k9).mono ?_); rintro e w' ⟨A7, c7, rfl, k7, hbb⟩)
      | (go_at_call 20; (with_reducible refine (HBN'.out _ _ _ _ _ k8 ⟨k9.1, kidsV k9.2 hbb⟩).mono ?_); rintro e w' ⟨A7, c7, rfl, k7, hbb⟩)
      | (go_at_call 14; (with_reducible refine (HVA.out _ _ _ k7).mono ?_); rintro e w' ⟨rfl, hbb⟩))
  all_goals
    have HBE : Hid (Below w1.heap.size w1 w') := Lib.hid (by go_split_ands; assumption)
    go_wp2
    go_ret
    exact ⟨rfl, B1.out.trans (HBE.out.mono B1.out.size)⟩

set_option maxHeartbeats 8000000 in
theorem arith_6t (a b op : Int) (w : World) (hG : Glob w) (ha : rg a) (hb : rg b) (o0 : 0 ≤ op) (o1 : op ≤ 255) (hk : op % 7 = 6) (h0 : (a == b) = true) : Calls Tryz.prog 5 #[.int .i64 a, .int .i64 b, .int .u8 op] w fun e w' => e = .returned (.bool true) ∧ Below w.heap.size w w' := by
  have HAW := Lib.hid (awake_any w hG)
  have hcv : binL (⟨#[61, 61]⟩ : ByteArray).toList ⟨24, a⟩ ⟨24, b⟩ = ⟨25, 1⟩ := by
    rw [ByteArray.toList_eq]
    simp [binL, intsL, ofI, ofB, no, show a = b by simpa using h0]
  have HNA : Hid (∀ V, Calls Tryz.prog 21 #[.int .i64 a] V (GN (numT a).1 (numT a).2 (numT a).2.len V)) := Lib.hid fun V => (number_any a V ha).mono fun e w' H => by
    obtain ⟨A, c, x, y, z, d⟩ := H
    exact ⟨A, c, x, ⟨y, z.carry fun b hb => ⟨hb.2, rfl⟩⟩, d⟩
  have HNB : Hid (∀ V, Calls Tryz.prog 21 #[.int .i64 b] V (GN (numT b).1 (numT b).2 (numT b).2.len V)) := Lib.hid fun V => (number_any b V hb).mono fun e w' H => by
    obtain ⟨A, c, x, y, z, d⟩ := H
    exact ⟨A, c, x, ⟨y, z.carry fun b hb => ⟨hb.2, rfl⟩⟩, d⟩
  have HBN : Hid (∀ V A A' c c', ((numT a).2.len ≤ c ∧ Kids (Lt V.heap.size) V A (numT a).2) → ((numT b).2.len ≤ c' ∧ Kids (Lt V.heap.size) V A' (numT b).2) → Calls Tryz.prog 20 #[.string ⟨#[61, 61]⟩, nv (numT a).1 A (numT a).2.len c, nv (numT b).1 A' (numT b).2.len c'] V fun e w' => ∃ A c, e = .returned (nv (B32 ⟨#[61, 61]⟩) A 2 c) ∧ Kids (Lt w'.heap.size) w' A (.cons (numT a).1 (numT a).2 (.cons (numT b).1 (numT b).2 .nil)) ∧ Below V.heap.size V w') := Lib.hid fun V A A' c c' h1 h2 => (binary_any ⟨#[61, 61]⟩ _ _ _ _ A A' c c' V h1.1 h1.2 h2.1 h2.2).mono fun e w' ⟨A, c, x, _, z, d⟩ => ⟨A, c, x, z, d⟩
  have HVA : Hid (∀ V A c, Kids (Lt V.heap.size) V A (.cons (numT a).1 (numT a).2 (.cons (numT b).1 (numT b).2 .nil)) → Calls Tryz.prog 14 #[nv (B32 ⟨#[61, 61]⟩) A 2 c] V (RetV 1 true V)) := Lib.hid fun V A c hk1 => by
    have := value_any (B32 ⟨#[61, 61]⟩) (.cons (numT a).1 (numT a).2 (.cons (numT b).1 (numT b).2 .nil)) A c V hk1 (by
      have := num_small a
      have := num_small b
      simp only [Fo.dep]; omega)
    rw [show evT (B32 ⟨#[61, 61]⟩) (.cons (numT a).1 (numT a).2 (.cons (numT b).1 (numT b).2 .nil)) = ⟨25, 1⟩ from ar_val ⟨#[61, 61]⟩ a b ha hb _ hcv] at this
    exact this
  obtain ⟨ka, hka⟩ : ∃ x, (numT a).2 = x := ⟨_, rfl⟩
  obtain ⟨kb, hkb⟩ : ∃ x, (numT b).2 = x := ⟨_, rfl⟩
  obtain ⟨xa, hxa⟩ : ∃ x, (numT a).1 = x := ⟨_, rfl⟩
  obtain ⟨xb, hxb⟩ : ∃ x, (numT b).1 = x := ⟨_, rfl⟩
  rw [hka, hxa] at HNA HBN HVA
  rw [hkb, hxb] at HNB HBN HVA
  obtain ⟨na, hna⟩ : ∃ n, ka.len = n := ⟨_, rfl⟩
  obtain ⟨nb, hnb⟩ : ∃ n, kb.len = n := ⟨_, rfl⟩
  have HNA' : Hid (∀ V, Calls Tryz.prog 21 #[.int .i64 a] V (GN xa ka na V)) := Lib.hid (hna ▸ HNA.out)
  have HNB' : Hid (∀ V, Calls Tryz.prog 21 #[.int .i64 b] V (GN xb kb nb V)) := Lib.hid (hnb ▸ HNB.out)
  have HBN' : Hid (∀ V A A' c c', (ka.len ≤ c ∧ Kids (Lt V.heap.size) V A ka) → (kb.len ≤ c' ∧ Kids (Lt V.heap.size) V A' kb) → Calls Tryz.prog 20 #[.string ⟨#[61, 61]⟩, nv xa A na c, nv xb A' nb c'] V fun e w' => ∃ A c, e = .returned (nv (B32 ⟨#[61, 61]⟩) A 2 c) ∧ Kids (Lt w'.heap.size) w' A (.cons xa ka (.cons xb kb .nil)) ∧ Below V.heap.size V w') := Lib.hid fun V A A' c c' h1 h2 => by
    have := HBN.out V A A' c c' h1 h2
    rwa [hna, hnb] at this
  clear hG ha hb hcv HNA HNB HBN hka hkb hxa hxb hna hnb
  go_enter Tryz.func5, Tryz.ntmps5
  go_wp2_with fail
  refine HAW.out.mono ?_
  rintro e w1 ⟨rfl, hb1⟩
  have B1 := Lib.hid hb1
  clear hb1
  go_wp2
  have HS0 : Hid ((w1.alloc (.cells #[.string ⟨#[43]⟩, .string ⟨#[45]⟩, .string ⟨#[42]⟩, .string ⟨#[47]⟩, .string ⟨#[37]⟩, .string ⟨#[60]⟩, .string ⟨#[61, 61]⟩] 34)).cell? ⟨w1.heap.size, 6, none⟩ = some (.string ⟨#[61, 61]⟩) ∧ Below w1.heap.size w1 (w1.alloc (.cells #[.string ⟨#[43]⟩, .string ⟨#[45]⟩, .string ⟨#[42]⟩, .string ⟨#[47]⟩, .string ⟨#[37]⟩, .string ⟨#[60]⟩, .string ⟨#[61, 61]⟩] 34))) := Lib.hid ⟨by
    have e := heap_alloc_new w1 (.cells #[.string ⟨#[43]⟩, .string ⟨#[45]⟩, .string ⟨#[42]⟩, .string ⟨#[47]⟩, .string ⟨#[37]⟩, .string ⟨#[60]⟩, .string ⟨#[61, 61]⟩] 34)
    simp only [World.cell?, e]
    rfl, fb1 _ _⟩
  go_region_held3 (fun w' => w'.cell? ⟨w1.heap.size, 6, none⟩ = some (.string ⟨#[61, 61]⟩) ∧ Below w1.heap.size w1 w')
    (first
      | exact ⟨HS0.out.1, Below.drew HS0.out.2⟩
      | exact ⟨cell_bl (by go_split_ands; assumption) hbb, Below.trans (by go_split_ands; assumption) (hbb.mono (Below.size (by go_split_ands; assumption)))⟩)
    (first
      | (go_at_call 21; (with_reducible refine (HNA'.out _).mono ?_); rintro e w' ⟨A8, c8, rfl, k8, hbb⟩)
      | (go_at_call 21; (with_reducible refine (HNB'.out _).mono ?_); rintro e w' ⟨A9, c9, rfl, k9, hbb⟩)
      | (go_at_call 20; (with_reducible refine (HBN'.out _ _ _ _ _ ⟨k8.1, kidsV k8.2 hbb⟩ k9).mono ?_); rintro e w' ⟨A7, c7, rfl, k7, hbb⟩)
      | (go_at_call 20; (with_reducible refine (HBN'.out _ _ _ _ _ k8 ⟨k9.1, kidsV k9.2 hbb⟩).mono ?_); rintro e w' ⟨A7, c7, rfl, k7, hbb⟩)
      | (go_at_call 14; (with_reducible refine (HVA.out _ _ _ k7).mono ?_); rintro e w' ⟨rfl, hbb⟩))
  all_goals
    have HBE : Hid (Below w1.heap.size w1 w') := Lib.hid (by go_split_ands; assumption)
    go_wp2
    go_ret
    exact ⟨rfl, B1.out.trans (HBE.out.mono B1.out.size)⟩

set_option maxHeartbeats 8000000 in
theorem arith_6f (a b op : Int) (w : World) (hG : Glob w) (ha : rg a) (hb : rg b) (o0 : 0 ≤ op) (o1 : op ≤ 255) (hk : op % 7 = 6) (h0 : (a == b) = false) : Calls Tryz.prog 5 #[.int .i64 a, .int .i64 b, .int .u8 op] w fun e w' => e = .returned (.bool true) ∧ Below w.heap.size w w' := by
  have HAW := Lib.hid (awake_any w hG)
  have hcv : binL (⟨#[61, 61]⟩ : ByteArray).toList ⟨24, a⟩ ⟨24, b⟩ = ⟨25, 0⟩ := by
    rw [ByteArray.toList_eq]
    simp [binL, intsL, ofI, ofB, no, show ¬ a = b by simpa using h0]
  have HNA : Hid (∀ V, Calls Tryz.prog 21 #[.int .i64 a] V (GN (numT a).1 (numT a).2 (numT a).2.len V)) := Lib.hid fun V => (number_any a V ha).mono fun e w' H => by
    obtain ⟨A, c, x, y, z, d⟩ := H
    exact ⟨A, c, x, ⟨y, z.carry fun b hb => ⟨hb.2, rfl⟩⟩, d⟩
  have HNB : Hid (∀ V, Calls Tryz.prog 21 #[.int .i64 b] V (GN (numT b).1 (numT b).2 (numT b).2.len V)) := Lib.hid fun V => (number_any b V hb).mono fun e w' H => by
    obtain ⟨A, c, x, y, z, d⟩ := H
    exact ⟨A, c, x, ⟨y, z.carry fun b hb => ⟨hb.2, rfl⟩⟩, d⟩
  have HBN : Hid (∀ V A A' c c', ((numT a).2.len ≤ c ∧ Kids (Lt V.heap.size) V A (numT a).2) → ((numT b).2.len ≤ c' ∧ Kids (Lt V.heap.size) V A' (numT b).2) → Calls Tryz.prog 20 #[.string ⟨#[61, 61]⟩, nv (numT a).1 A (numT a).2.len c, nv (numT b).1 A' (numT b).2.len c'] V fun e w' => ∃ A c, e = .returned (nv (B32 ⟨#[61, 61]⟩) A 2 c) ∧ Kids (Lt w'.heap.size) w' A (.cons (numT a).1 (numT a).2 (.cons (numT b).1 (numT b).2 .nil)) ∧ Below V.heap.size V w') := Lib.hid fun V A A' c c' h1 h2 => (binary_any ⟨#[61, 61]⟩ _ _ _ _ A A' c c' V h1.1 h1.2 h2.1 h2.2).mono fun e w' ⟨A, c, x, _, z, d⟩ => ⟨A, c, x, z, d⟩
  have HVA : Hid (∀ V A c, Kids (Lt V.heap.size) V A (.cons (numT a).1 (numT a).2 (.cons (numT b).1 (numT b).2 .nil)) → Calls Tryz.prog 14 #[nv (B32 ⟨#[61, 61]⟩) A 2 c] V (RetV 0 true V)) := Lib.hid fun V A c hk1 => by
    have := value_any (B32 ⟨#[61, 61]⟩) (.cons (numT a).1 (numT a).2 (.cons (numT b).1 (numT b).2 .nil)) A c V hk1 (by
      have := num_small a
      have := num_small b
      simp only [Fo.dep]; omega)
    rw [show evT (B32 ⟨#[61, 61]⟩) (.cons (numT a).1 (numT a).2 (.cons (numT b).1 (numT b).2 .nil)) = ⟨25, 0⟩ from ar_val ⟨#[61, 61]⟩ a b ha hb _ hcv] at this
    exact this
  obtain ⟨ka, hka⟩ : ∃ x, (numT a).2 = x := ⟨_, rfl⟩
  obtain ⟨kb, hkb⟩ : ∃ x, (numT b).2 = x := ⟨_, rfl⟩
  obtain ⟨xa, hxa⟩ : ∃ x, (numT a).1 = x := ⟨_, rfl⟩
  obtain ⟨xb, hxb⟩ : ∃ x, (numT b).1 = x := ⟨_, rfl⟩
  rw [hka, hxa] at HNA HBN HVA
  rw [hkb, hxb] at HNB HBN HVA
  obtain ⟨na, hna⟩ : ∃ n, ka.len = n := ⟨_, rfl⟩
  obtain ⟨nb, hnb⟩ : ∃ n, kb.len = n := ⟨_, rfl⟩
  have HNA' : Hid (∀ V, Calls Tryz.prog 21 #[.int .i64 a] V (GN xa ka na V)) := Lib.hid (hna ▸ HNA.out)
  have HNB' : Hid (∀ V, Calls Tryz.prog 21 #[.int .i64 b] V (GN xb kb nb V)) := Lib.hid (hnb ▸ HNB.out)
  have HBN' : Hid (∀ V A A' c c', (ka.len ≤ c ∧ Kids (Lt V.heap.size) V A ka) → (kb.len ≤ c' ∧ Kids (Lt V.heap.size) V A' kb) → Calls Tryz.prog 20 #[.string ⟨#[61, 61]⟩, nv xa A na c, nv xb A' nb c'] V fun e w' => ∃ A c, e = .returned (nv (B32 ⟨#[61, 61]⟩) A 2 c) ∧ Kids (Lt w'.heap.size) w' A (.cons xa ka (.cons xb kb .nil)) ∧ Below V.heap.size V w') := Lib.hid fun V A A' c c' h1 h2 => by
    have := HBN.out V A A' c c' h1 h2
    rwa [hna, hnb] at this
  clear hG ha hb hcv HNA HNB HBN hka hkb hxa hxb hna hnb
  go_enter Tryz.func5, Tryz.ntmps5
  go_wp2_with fail
  refine HAW.out.mono ?_
  rintro e w1 ⟨rfl, hb1⟩
  have B1 := Lib.hid hb1
  clear hb1
  go_wp2
  have HS0 : Hid ((w1.alloc (.cells #[.string ⟨#[43]⟩, .string ⟨#[45]⟩, .string ⟨#[42]⟩, .string ⟨#[47]⟩, .string ⟨#[37]⟩, .string ⟨#[60]⟩, .string ⟨#[61, 61]⟩] 34)).cell? ⟨w1.heap.size, 6, none⟩ = some (.string ⟨#[61, 61]⟩) ∧ Below w1.heap.size w1 (w1.alloc (.cells #[.string ⟨#[43]⟩, .string ⟨#[45]⟩, .string ⟨#[42]⟩, .string ⟨#[47]⟩, .string ⟨#[37]⟩, .string ⟨#[60]⟩, .string ⟨#[61, 61]⟩] 34))) := Lib.hid ⟨by
    have e := heap_alloc_new w1 (.cells #[.string ⟨#[43]⟩, .string ⟨#[45]⟩, .string ⟨#[42]⟩, .string ⟨#[47]⟩, .string ⟨#[37]⟩, .string ⟨#[60]⟩, .string ⟨#[61, 61]⟩] 34)
    simp only [World.cell?, e]
    rfl, fb1 _ _⟩
  go_region_held3 (fun w' => w'.cell? ⟨w1.heap.size, 6, none⟩ = some (.string ⟨#[61, 61]⟩) ∧ Below w1.heap.size w1 w')
    (first
      | exact ⟨HS0.out.1, Below.drew HS0.out.2⟩
      | exact ⟨cell_bl (by go_split_ands; assumption) hbb, Below.trans (by go_split_ands; assumption) (hbb.mono (Below.size (by go_split_ands; assumption)))⟩)
    (first
      | (go_at_call 21; (with_reducible refine (HNA'.out _).mono ?_); rintro e w' ⟨A8, c8, rfl, k8, hbb⟩)
      | (go_at_call 21; (with_reducible refine (HNB'.out _).mono ?_); rintro e w' ⟨A9, c9, rfl, k9, hbb⟩)
      | (go_at_call 20; (with_reducible refine (HBN'.out _ _ _ _ _ ⟨k8.1, kidsV k8.2 hbb⟩ k9).mono ?_); rintro e w' ⟨A7, c7, rfl, k7, hbb⟩)
      | (go_at_call 20; (with_reducible refine (HBN'.out _ _ _ _ _ k8 ⟨k9.1, kidsV k9.2 hbb⟩).mono ?_); rintro e w' ⟨A7, c7, rfl, k7, hbb⟩)
      | (go_at_call 14; (with_reducible refine (HVA.out _ _ _ k7).mono ?_); rintro e w' ⟨rfl, hbb⟩))
  all_goals
    have HBE : Hid (Below w1.heap.size w1 w') := Lib.hid (by go_split_ands; assumption)
    go_wp2
    go_ret
    exact ⟨rfl, B1.out.trans (HBE.out.mono B1.out.size)⟩

set_option maxHeartbeats 8000000 in
theorem arith_3z (a b op : Int) (w : World) (hG : Glob w) (ha : rg a) (hb : rg b) (o0 : 0 ≤ op) (o1 : op ≤ 255) (hk : op % 7 = 3) (h1 : (b == 0) = true) : Calls Tryz.prog 5 #[.int .i64 a, .int .i64 b, .int .u8 op] w fun e w' => e = .returned (.bool true) ∧ Below w.heap.size w w' := by
  have HAW := Lib.hid (awake_any w hG)
  have hcv : binL (⟨#[47]⟩ : ByteArray).toList ⟨24, a⟩ ⟨24, b⟩ = no := by
    rw [ByteArray.toList_eq]
    simp [binL, intsL, ofI, ofB, no, show b = 0 by simpa using h1]
  have HNA : Hid (∀ V, Calls Tryz.prog 21 #[.int .i64 a] V (GN (numT a).1 (numT a).2 (numT a).2.len V)) := Lib.hid fun V => (number_any a V ha).mono fun e w' H => by
    obtain ⟨A, c, x, y, z, d⟩ := H
    exact ⟨A, c, x, ⟨y, z.carry fun b hb => ⟨hb.2, rfl⟩⟩, d⟩
  have HNB : Hid (∀ V, Calls Tryz.prog 21 #[.int .i64 b] V (GN (numT b).1 (numT b).2 (numT b).2.len V)) := Lib.hid fun V => (number_any b V hb).mono fun e w' H => by
    obtain ⟨A, c, x, y, z, d⟩ := H
    exact ⟨A, c, x, ⟨y, z.carry fun b hb => ⟨hb.2, rfl⟩⟩, d⟩
  have HBN : Hid (∀ V A A' c c', ((numT a).2.len ≤ c ∧ Kids (Lt V.heap.size) V A (numT a).2) → ((numT b).2.len ≤ c' ∧ Kids (Lt V.heap.size) V A' (numT b).2) → Calls Tryz.prog 20 #[.string ⟨#[47]⟩, nv (numT a).1 A (numT a).2.len c, nv (numT b).1 A' (numT b).2.len c'] V fun e w' => ∃ A c, e = .returned (nv (B32 ⟨#[47]⟩) A 2 c) ∧ Kids (Lt w'.heap.size) w' A (.cons (numT a).1 (numT a).2 (.cons (numT b).1 (numT b).2 .nil)) ∧ Below V.heap.size V w') := Lib.hid fun V A A' c c' h1 h2 => (binary_any ⟨#[47]⟩ _ _ _ _ A A' c c' V h1.1 h1.2 h2.1 h2.2).mono fun e w' ⟨A, c, x, _, z, d⟩ => ⟨A, c, x, z, d⟩
  have HVA : Hid (∀ V A c, Kids (Lt V.heap.size) V A (.cons (numT a).1 (numT a).2 (.cons (numT b).1 (numT b).2 .nil)) → Calls Tryz.prog 14 #[nv (B32 ⟨#[47]⟩) A 2 c] V (RetV 0 false V)) := Lib.hid fun V A c hk1 => by
    have := value_any (B32 ⟨#[47]⟩) (.cons (numT a).1 (numT a).2 (.cons (numT b).1 (numT b).2 .nil)) A c V hk1 (by
      have := num_small a
      have := num_small b
      simp only [Fo.dep]; omega)
    rw [show evT (B32 ⟨#[47]⟩) (.cons (numT a).1 (numT a).2 (.cons (numT b).1 (numT b).2 .nil)) = no from ar_val ⟨#[47]⟩ a b ha hb _ hcv] at this
    exact this
  obtain ⟨ka, hka⟩ : ∃ x, (numT a).2 = x := ⟨_, rfl⟩
  obtain ⟨kb, hkb⟩ : ∃ x, (numT b).2 = x := ⟨_, rfl⟩
  obtain ⟨xa, hxa⟩ : ∃ x, (numT a).1 = x := ⟨_, rfl⟩
  obtain ⟨xb, hxb⟩ : ∃ x, (numT b).1 = x := ⟨_, rfl⟩
  rw [hka, hxa] at HNA HBN HVA
  rw [hkb, hxb] at HNB HBN HVA
  obtain ⟨na, hna⟩ : ∃ n, ka.len = n := ⟨_, rfl⟩
  obtain ⟨nb, hnb⟩ : ∃ n, kb.len = n := ⟨_, rfl⟩
  have HNA' : Hid (∀ V, Calls Tryz.prog 21 #[.int .i64 a] V (GN xa ka na V)) := Lib.hid (hna ▸ HNA.out)
  have HNB' : Hid (∀ V, Calls Tryz.prog 21 #[.int .i64 b] V (GN xb kb nb V)) := Lib.hid (hnb ▸ HNB.out)
  have HBN' : Hid (∀ V A A' c c', (ka.len ≤ c ∧ Kids (Lt V.heap.size) V A ka) → (kb.len ≤ c' ∧ Kids (Lt V.heap.size) V A' kb) → Calls Tryz.prog 20 #[.string ⟨#[47]⟩, nv xa A na c, nv xb A' nb c'] V fun e w' => ∃ A c, e = .returned (nv (B32 ⟨#[47]⟩) A 2 c) ∧ Kids (Lt w'.heap.size) w' A (.cons xa ka (.cons xb kb .nil)) ∧ Below V.heap.size V w') := Lib.hid fun V A A' c c' h1 h2 => by
    have := HBN.out V A A' c c' h1 h2
    rwa [hna, hnb] at this
  clear hG ha hb hcv HNA HNB HBN hka hkb hxa hxb hna hnb
  go_enter Tryz.func5, Tryz.ntmps5
  go_wp2_with fail
  refine HAW.out.mono ?_
  rintro e w1 ⟨rfl, hb1⟩
  have B1 := Lib.hid hb1
  clear hb1
  go_wp2
  have HS0 : Hid ((w1.alloc (.cells #[.string ⟨#[43]⟩, .string ⟨#[45]⟩, .string ⟨#[42]⟩, .string ⟨#[47]⟩, .string ⟨#[37]⟩, .string ⟨#[60]⟩, .string ⟨#[61, 61]⟩] 34)).cell? ⟨w1.heap.size, 3, none⟩ = some (.string ⟨#[47]⟩) ∧ Below w1.heap.size w1 (w1.alloc (.cells #[.string ⟨#[43]⟩, .string ⟨#[45]⟩, .string ⟨#[42]⟩, .string ⟨#[47]⟩, .string ⟨#[37]⟩, .string ⟨#[60]⟩, .string ⟨#[61, 61]⟩] 34))) := Lib.hid ⟨by
    have e := heap_alloc_new w1 (.cells #[.string ⟨#[43]⟩, .string ⟨#[45]⟩, .string ⟨#[42]⟩, .string ⟨#[47]⟩, .string ⟨#[37]⟩, .string ⟨#[60]⟩, .string ⟨#[61, 61]⟩] 34)
    simp only [World.cell?, e]
    rfl, fb1 _ _⟩
  go_region_held3 (fun w' => w'.cell? ⟨w1.heap.size, 3, none⟩ = some (.string ⟨#[47]⟩) ∧ Below w1.heap.size w1 w')
    (first
      | exact ⟨HS0.out.1, Below.drew HS0.out.2⟩
      | exact ⟨cell_bl (by go_split_ands; assumption) hbb, Below.trans (by go_split_ands; assumption) (hbb.mono (Below.size (by go_split_ands; assumption)))⟩)
    (first
      | (go_at_call 21; (with_reducible refine (HNA'.out _).mono ?_); rintro e w' ⟨A8, c8, rfl, k8, hbb⟩)
      | (go_at_call 21; (with_reducible refine (HNB'.out _).mono ?_); rintro e w' ⟨A9, c9, rfl, k9, hbb⟩)
      | (go_at_call 20; (with_reducible refine (HBN'.out _ _ _ _ _ ⟨k8.1, kidsV k8.2 hbb⟩ k9).mono ?_); rintro e w' ⟨A7, c7, rfl, k7, hbb⟩)
      | (go_at_call 20; (with_reducible refine (HBN'.out _ _ _ _ _ k8 ⟨k9.1, kidsV k9.2 hbb⟩).mono ?_); rintro e w' ⟨A7, c7, rfl, k7, hbb⟩)
      | (go_at_call 14; (with_reducible refine (HVA.out _ _ _ k7).mono ?_); rintro e w' ⟨rfl, hbb⟩))
  all_goals
    have HBE : Hid (Below w1.heap.size w1 w') := Lib.hid (by go_split_ands; assumption)
    go_wp2
    go_ret
    exact ⟨rfl, B1.out.trans (HBE.out.mono B1.out.size)⟩

set_option maxHeartbeats 8000000 in
theorem arith_4z (a b op : Int) (w : World) (hG : Glob w) (ha : rg a) (hb : rg b) (o0 : 0 ≤ op) (o1 : op ≤ 255) (hk : op % 7 = 4) (h1 : (b == 0) = true) : Calls Tryz.prog 5 #[.int .i64 a, .int .i64 b, .int .u8 op] w fun e w' => e = .returned (.bool true) ∧ Below w.heap.size w w' := by
  have HAW := Lib.hid (awake_any w hG)
  have hcv : binL (⟨#[37]⟩ : ByteArray).toList ⟨24, a⟩ ⟨24, b⟩ = no := by
    rw [ByteArray.toList_eq]
    simp [binL, intsL, ofI, ofB, no, show b = 0 by simpa using h1]
  have HNA : Hid (∀ V, Calls Tryz.prog 21 #[.int .i64 a] V (GN (numT a).1 (numT a).2 (numT a).2.len V)) := Lib.hid fun V => (number_any a V ha).mono fun e w' H => by
    obtain ⟨A, c, x, y, z, d⟩ := H
    exact ⟨A, c, x, ⟨y, z.carry fun b hb => ⟨hb.2, rfl⟩⟩, d⟩
  have HNB : Hid (∀ V, Calls Tryz.prog 21 #[.int .i64 b] V (GN (numT b).1 (numT b).2 (numT b).2.len V)) := Lib.hid fun V => (number_any b V hb).mono fun e w' H => by
    obtain ⟨A, c, x, y, z, d⟩ := H
    exact ⟨A, c, x, ⟨y, z.carry fun b hb => ⟨hb.2, rfl⟩⟩, d⟩
  have HBN : Hid (∀ V A A' c c', ((numT a).2.len ≤ c ∧ Kids (Lt V.heap.size) V A (numT a).2) → ((numT b).2.len ≤ c' ∧ Kids (Lt V.heap.size) V A' (numT b).2) → Calls Tryz.prog 20 #[.string ⟨#[37]⟩, nv (numT a).1 A (numT a).2.len c, nv (numT b).1 A' (numT b).2.len c'] V fun e w' => ∃ A c, e = .returned (nv (B32 ⟨#[37]⟩) A 2 c) ∧ Kids (Lt w'.heap.size) w' A (.cons (numT a).1 (numT a).2 (.cons (numT b).1 (numT b).2 .nil)) ∧ Below V.heap.size V w') := Lib.hid fun V A A' c c' h1 h2 => (binary_any ⟨#[37]⟩ _ _ _ _ A A' c c' V h1.1 h1.2 h2.1 h2.2).mono fun e w' ⟨A, c, x, _, z, d⟩ => ⟨A, c, x, z, d⟩
  have HVA : Hid (∀ V A c, Kids (Lt V.heap.size) V A (.cons (numT a).1 (numT a).2 (.cons (numT b).1 (numT b).2 .nil)) → Calls Tryz.prog 14 #[nv (B32 ⟨#[37]⟩) A 2 c] V (RetV 0 false V)) := Lib.hid fun V A c hk1 => by
    have := value_any (B32 ⟨#[37]⟩) (.cons (numT a).1 (numT a).2 (.cons (numT b).1 (numT b).2 .nil)) A c V hk1 (by
      have := num_small a
      have := num_small b
      simp only [Fo.dep]; omega)
    rw [show evT (B32 ⟨#[37]⟩) (.cons (numT a).1 (numT a).2 (.cons (numT b).1 (numT b).2 .nil)) = no from ar_val ⟨#[37]⟩ a b ha hb _ hcv] at this
    exact this
  obtain ⟨ka, hka⟩ : ∃ x, (numT a).2 = x := ⟨_, rfl⟩
  obtain ⟨kb, hkb⟩ : ∃ x, (numT b).2 = x := ⟨_, rfl⟩
  obtain ⟨xa, hxa⟩ : ∃ x, (numT a).1 = x := ⟨_, rfl⟩
  obtain ⟨xb, hxb⟩ : ∃ x, (numT b).1 = x := ⟨_, rfl⟩
  rw [hka, hxa] at HNA HBN HVA
  rw [hkb, hxb] at HNB HBN HVA
  obtain ⟨na, hna⟩ : ∃ n, ka.len = n := ⟨_, rfl⟩
  obtain ⟨nb, hnb⟩ : ∃ n, kb.len = n := ⟨_, rfl⟩
  have HNA' : Hid (∀ V, Calls Tryz.prog 21 #[.int .i64 a] V (GN xa ka na V)) := Lib.hid (hna ▸ HNA.out)
  have HNB' : Hid (∀ V, Calls Tryz.prog 21 #[.int .i64 b] V (GN xb kb nb V)) := Lib.hid (hnb ▸ HNB.out)
  have HBN' : Hid (∀ V A A' c c', (ka.len ≤ c ∧ Kids (Lt V.heap.size) V A ka) → (kb.len ≤ c' ∧ Kids (Lt V.heap.size) V A' kb) → Calls Tryz.prog 20 #[.string ⟨#[37]⟩, nv xa A na c, nv xb A' nb c'] V fun e w' => ∃ A c, e = .returned (nv (B32 ⟨#[37]⟩) A 2 c) ∧ Kids (Lt w'.heap.size) w' A (.cons xa ka (.cons xb kb .nil)) ∧ Below V.heap.size V w') := Lib.hid fun V A A' c c' h1 h2 => by
    have := HBN.out V A A' c c' h1 h2
    rwa [hna, hnb] at this
  clear hG ha hb hcv HNA HNB HBN hka hkb hxa hxb hna hnb
  go_enter Tryz.func5, Tryz.ntmps5
  go_wp2_with fail
  refine HAW.out.mono ?_
  rintro e w1 ⟨rfl, hb1⟩
  have B1 := Lib.hid hb1
  clear hb1
  go_wp2
  have HS0 : Hid ((w1.alloc (.cells #[.string ⟨#[43]⟩, .string ⟨#[45]⟩, .string ⟨#[42]⟩, .string ⟨#[47]⟩, .string ⟨#[37]⟩, .string ⟨#[60]⟩, .string ⟨#[61, 61]⟩] 34)).cell? ⟨w1.heap.size, 4, none⟩ = some (.string ⟨#[37]⟩) ∧ Below w1.heap.size w1 (w1.alloc (.cells #[.string ⟨#[43]⟩, .string ⟨#[45]⟩, .string ⟨#[42]⟩, .string ⟨#[47]⟩, .string ⟨#[37]⟩, .string ⟨#[60]⟩, .string ⟨#[61, 61]⟩] 34))) := Lib.hid ⟨by
    have e := heap_alloc_new w1 (.cells #[.string ⟨#[43]⟩, .string ⟨#[45]⟩, .string ⟨#[42]⟩, .string ⟨#[47]⟩, .string ⟨#[37]⟩, .string ⟨#[60]⟩, .string ⟨#[61, 61]⟩] 34)
    simp only [World.cell?, e]
    rfl, fb1 _ _⟩
  go_region_held3 (fun w' => w'.cell? ⟨w1.heap.size, 4, none⟩ = some (.string ⟨#[37]⟩) ∧ Below w1.heap.size w1 w')
    (first
      | exact ⟨HS0.out.1, Below.drew HS0.out.2⟩
      | exact ⟨cell_bl (by go_split_ands; assumption) hbb, Below.trans (by go_split_ands; assumption) (hbb.mono (Below.size (by go_split_ands; assumption)))⟩)
    (first
      | (go_at_call 21; (with_reducible refine (HNA'.out _).mono ?_); rintro e w' ⟨A8, c8, rfl, k8, hbb⟩)
      | (go_at_call 21; (with_reducible refine (HNB'.out _).mono ?_); rintro e w' ⟨A9, c9, rfl, k9, hbb⟩)
      | (go_at_call 20; (with_reducible refine (HBN'.out _ _ _ _ _ ⟨k8.1, kidsV k8.2 hbb⟩ k9).mono ?_); rintro e w' ⟨A7, c7, rfl, k7, hbb⟩)
      | (go_at_call 20; (with_reducible refine (HBN'.out _ _ _ _ _ k8 ⟨k9.1, kidsV k9.2 hbb⟩).mono ?_); rintro e w' ⟨A7, c7, rfl, k7, hbb⟩)
      | (go_at_call 14; (with_reducible refine (HVA.out _ _ _ k7).mono ?_); rintro e w' ⟨rfl, hbb⟩))
  all_goals
    have HBE : Hid (Below w1.heap.size w1 w') := Lib.hid (by go_split_ands; assumption)
    go_wp2
    go_ret
    exact ⟨rfl, B1.out.trans (HBE.out.mono B1.out.size)⟩

theorem arith_law (a b op : Int) (w : World) (hG : Glob w) (w0 : (Lit.int .i64 a).wf = true) (w1 : (Lit.int .i64 b).wf = true) (w2 : (Lit.int .u8 op).wf = true) : Calls Tryz.prog 5 #[.int .i64 a, .int .i64 b, .int .u8 op] w fun e w' => e = .returned (.bool true) ∧ Below w.heap.size w w' := by
  have ha : rg a := rg_of (h := litH 0 a 0) ⟨w0, show (⟨#[]⟩ : ByteArray).size ≤ maxLen by decide⟩
  have hb : rg b := rg_of (h := litH 0 b 0) ⟨w1, show (⟨#[]⟩ : ByteArray).size ≤ maxLen by decide⟩
  have ho : 0 ≤ op ∧ op ≤ 255 := by
    have h1 : IntKind.u8.min ≤ op ∧ op ≤ IntKind.u8.max := by simpa [Lit.wf] using w2
    have e1 : IntKind.u8.min = 0 := by decide
    have e2 : IntKind.u8.max = 255 := by decide
    rw [e1, e2] at h1
    exact h1
  obtain ⟨o0, o1⟩ := ho
  have hk : op % 7 = 0 ∨ op % 7 = 1 ∨ op % 7 = 2 ∨ op % 7 = 3 ∨ op % 7 = 4 ∨ op % 7 = 5 ∨ op % 7 = 6 := by omega
  rcases hk with hk | hk | hk | hk | hk | hk | hk
  · exact arith_0 a b op w hG ha hb o0 o1 hk
  · exact arith_1 a b op w hG ha hb o0 o1 hk
  · exact arith_2 a b op w hG ha hb o0 o1 hk
  · by_cases h0 : b = 0
    · exact arith_3z a b op w hG ha hb o0 o1 hk (by simpa using h0)
    · exact arith_3n a b op w hG ha hb o0 o1 hk h0 (by simpa using h0) (by simpa using h0)
  · by_cases h0 : b = 0
    · exact arith_4z a b op w hG ha hb o0 o1 hk (by simpa using h0)
    · exact arith_4n a b op w hG ha hb o0 o1 hk h0 (by simpa using h0) (by simpa using h0)
  · by_cases h0 : a < b
    · exact arith_5t a b op w hG ha hb o0 o1 hk (by simpa using h0)
    · exact arith_5f a b op w hG ha hb o0 o1 hk (by simpa using h0)
  · by_cases h0 : a = b
    · exact arith_6t a b op w hG ha hb o0 o1 hk (by simpa using h0)
    · exact arith_6f a b op w hG ha hb o0 o1 hk (by simpa using h0)

end Go.Proofs.YtnknphchjmnkcaaGreatDoor
