/-
  The walk of the program's Of.
-/
import Derived.Test.YtijhdlmnoinfiaaGreatDoorHB
set_option linter.all false
namespace Go.Proofs.YtijhdlmnoinfiaaGreatDoor
open Go.RowKit T T.Fo Ty
set_option maxRecDepth 100000 in
set_option maxHeartbeats 4000000 in
theorem yOf_A (nu po tk rf up : Int) (tn : ByteArray) (A : Option Addr) (cap : Nat) (w : World) : Calls Tryz.prog 13 #[.agg #[.int .i64 9, .string ⟨#[]⟩, .int .i64 nu, .int .i64 po, .slice A 0 cap, .int .i64 tk, .string tn, .int .i64 rf, .int .i64 up]] w (Res w 0 ⟨#[]⟩ true) := by
  have HS := Lib.hid (Ob.start w 9 ⟨#[]⟩ nu po tk rf up tn A 0 cap)
  go_enter Tryz.func13, Tryz.ntmps13
  go_wp2_with fail
  refine (plain_any 0 _).mono ?_
  rintro e V ⟨rfl, hb⟩
  have hS := HS.out.keep hb
  obtain ⟨r0, r1, rf⟩ := box2 hS.r
  have rf0 := rf 0
  have rf1 := rf 1
  have qz := hS.z
  have q0 := hS.a0
  have q1 := hS.a1
  have qb : w.heap.size < V.heap.size := by omega
  have e1 : ¬ w.heap.size = w.heap.size + 1 := by omega
  have HB := Lib.hid hS.b
  clear rf
  clear hb hS
  go_wp2
  refine bodyPost_ret (v := .tuple #[tyv 0 ⟨#[]⟩, .bool true]) (by simp [results, Tryz.results13, go_sem, qz, qb, r0, r1, rf0, rf1, q0, q1, e1]) rfl ⟨rfl, ?_⟩
  repeat' (first | exact Below.refl _ _ | exact HB.out | apply Below.setCell | apply Below.alloc | apply Below.drew)
  all_goals (try simp)
  all_goals (try omega)
set_option maxRecDepth 100000 in
set_option maxHeartbeats 4000000 in
theorem yOf_B1 (nu po tk rf up : Int) (tn : ByteArray) (A : Option Addr) (cap : Nat) (kd : Int) (tx : ByteArray) (n : Nat) (h9 : (kd == 9) = false) (w : World) (H : Hid (∀ V, Below w.heap.size w V → Calls Tryz.prog 37 #[.agg #[.int .i64 kd, .string tx, .int .i64 nu, .int .i64 po, .slice A n cap, .int .i64 tk, .string tn, .int .i64 rf, .int .i64 up]] V fun e w' => e = .returned (.bool false) ∧ Below V.heap.size V w')) : Calls Tryz.prog 13 #[.agg #[.int .i64 kd, .string tx, .int .i64 nu, .int .i64 po, .slice A n cap, .int .i64 tk, .string tn, .int .i64 rf, .int .i64 up]] w (Res w 0 ⟨#[]⟩ false) := by
  have HS := Lib.hid (Ob.start w kd tx nu po tk rf up tn A n cap)
  go_enter Tryz.func13, Tryz.ntmps13
  go_wp2_with fail
  refine (H.out _ HS.out.b).mono ?_
  rintro e V ⟨rfl, hb⟩
  have hS := HS.out.keep hb
  obtain ⟨r0, r1, rf⟩ := box2 hS.r
  have rf0 := rf 0
  have rf1 := rf 1
  have qz := hS.z
  have q0 := hS.a0
  have q1 := hS.a1
  have qb : w.heap.size < V.heap.size := by omega
  have e1 : ¬ w.heap.size = w.heap.size + 1 := by omega
  have HB := Lib.hid hS.b
  clear rf
  clear hb hS
  go_wp2
  refine bodyPost_ret (v := .tuple #[tyv 0 ⟨#[]⟩, .bool false]) (by simp [results, Tryz.results13, go_sem, qz, qb, r0, r1, rf0, rf1, q0, q1, e1]) rfl ⟨rfl, ?_⟩
  repeat' (first | exact Below.refl _ _ | exact HB.out | apply Below.setCell | apply Below.alloc | apply Below.drew)
  all_goals (try simp)
  all_goals (try omega)
set_option maxRecDepth 100000 in
set_option maxHeartbeats 4000000 in
theorem yOf_B2 (nu po tk rf up : Int) (tn : ByteArray) (A : Option Addr) (cap : Nat) (tx : ByteArray) (n : Nat) (ht : (tx.toList == []) = false) (ht2 : tx.toList.isEmpty = false) (w : World) (H : Hid (∀ V, Below w.heap.size w V → Calls Tryz.prog 37 #[.agg #[.int .i64 9, .string tx, .int .i64 nu, .int .i64 po, .slice A n cap, .int .i64 tk, .string tn, .int .i64 rf, .int .i64 up]] V fun e w' => e = .returned (.bool false) ∧ Below V.heap.size V w')) : Calls Tryz.prog 13 #[.agg #[.int .i64 9, .string tx, .int .i64 nu, .int .i64 po, .slice A n cap, .int .i64 tk, .string tn, .int .i64 rf, .int .i64 up]] w (Res w 0 ⟨#[]⟩ false) := by
  have HS := Lib.hid (Ob.start w 9 tx nu po tk rf up tn A n cap)
  go_enter Tryz.func13, Tryz.ntmps13
  go_wp2_with fail
  refine (H.out _ HS.out.b).mono ?_
  rintro e V ⟨rfl, hb⟩
  have hS := HS.out.keep hb
  obtain ⟨r0, r1, rf⟩ := box2 hS.r
  have rf0 := rf 0
  have rf1 := rf 1
  have qz := hS.z
  have q0 := hS.a0
  have q1 := hS.a1
  have qb : w.heap.size < V.heap.size := by omega
  have e1 : ¬ w.heap.size = w.heap.size + 1 := by omega
  have HB := Lib.hid hS.b
  clear rf
  clear hb hS
  go_wp2
  refine bodyPost_ret (v := .tuple #[tyv 0 ⟨#[]⟩, .bool false]) (by simp [results, Tryz.results13, go_sem, qz, qb, r0, r1, rf0, rf1, q0, q1, e1]) rfl ⟨rfl, ?_⟩
  repeat' (first | exact Below.refl _ _ | exact HB.out | apply Below.setCell | apply Below.alloc | apply Below.drew)
  all_goals (try simp)
  all_goals (try omega)
set_option maxRecDepth 100000 in
set_option maxHeartbeats 4000000 in
theorem yOf_B3 (nu po tk rf up : Int) (tn : ByteArray) (A : Option Addr) (cap : Nat) (n : Nat) (h0 : ((n : Int) == 0) = false) (w : World) (H : Hid (∀ V, Below w.heap.size w V → Calls Tryz.prog 37 #[.agg #[.int .i64 9, .string ⟨#[]⟩, .int .i64 nu, .int .i64 po, .slice A n cap, .int .i64 tk, .string tn, .int .i64 rf, .int .i64 up]] V fun e w' => e = .returned (.bool false) ∧ Below V.heap.size V w')) : Calls Tryz.prog 13 #[.agg #[.int .i64 9, .string ⟨#[]⟩, .int .i64 nu, .int .i64 po, .slice A n cap, .int .i64 tk, .string tn, .int .i64 rf, .int .i64 up]] w (Res w 0 ⟨#[]⟩ false) := by
  have HS := Lib.hid (Ob.start w 9 ⟨#[]⟩ nu po tk rf up tn A n cap)
  go_enter Tryz.func13, Tryz.ntmps13
  go_wp2_with fail
  refine (H.out _ HS.out.b).mono ?_
  rintro e V ⟨rfl, hb⟩
  have hS := HS.out.keep hb
  obtain ⟨r0, r1, rf⟩ := box2 hS.r
  have rf0 := rf 0
  have rf1 := rf 1
  have qz := hS.z
  have q0 := hS.a0
  have q1 := hS.a1
  have qb : w.heap.size < V.heap.size := by omega
  have e1 : ¬ w.heap.size = w.heap.size + 1 := by omega
  have HB := Lib.hid hS.b
  clear rf
  clear hb hS
  go_wp2
  refine bodyPost_ret (v := .tuple #[tyv 0 ⟨#[]⟩, .bool false]) (by simp [results, Tryz.results13, go_sem, qz, qb, r0, r1, rf0, rf1, q0, q1, e1]) rfl ⟨rfl, ?_⟩
  repeat' (first | exact Below.refl _ _ | exact HB.out | apply Below.setCell | apply Below.alloc | apply Below.drew)
  all_goals (try simp)
  all_goals (try omega)
set_option maxRecDepth 100000 in
set_option maxHeartbeats 4000000 in
theorem yOf_D (nu po tk rf up : Int) (tn : ByteArray) (A : Option Addr) (cap : Nat) (tx : ByteArray) (n : Nat) (w : World) (H : Hid (∀ V, Below w.heap.size w V → Calls Tryz.prog 37 #[.agg #[.int .i64 8, .string tx, .int .i64 nu, .int .i64 po, .slice A n cap, .int .i64 tk, .string tn, .int .i64 rf, .int .i64 up]] V fun e w' => e = .returned (.bool true) ∧ Below V.heap.size V w')) : Calls Tryz.prog 13 #[.agg #[.int .i64 8, .string tx, .int .i64 nu, .int .i64 po, .slice A n cap, .int .i64 tk, .string tn, .int .i64 rf, .int .i64 up]] w (Res w 4 tx true) := by
  have HS := Lib.hid (Ob.start w 8 tx nu po tk rf up tn A n cap)
  go_enter Tryz.func13, Tryz.ntmps13
  go_wp2_with fail
  refine (H.out _ HS.out.b).mono ?_
  rintro e V ⟨rfl, hb⟩
  have hS := HS.out.keep hb
  obtain ⟨r0, r1, rf⟩ := box2 hS.r
  have rf0 := rf 0
  have rf1 := rf 1
  have qz := hS.z
  have q0 := hS.a0
  have q1 := hS.a1
  have qb : w.heap.size < V.heap.size := by omega
  have e1 : ¬ w.heap.size = w.heap.size + 1 := by omega
  have HB := Lib.hid hS.b
  clear rf
  clear hb hS
  go_wp2
  refine bodyPost_ret (v := .tuple #[tyv 4 tx, .bool true]) (by simp [results, Tryz.results13, go_sem, qz, qb, r0, r1, rf0, rf1, q0, q1, e1]) rfl ⟨rfl, ?_⟩
  repeat' (first | exact Below.refl _ _ | exact HB.out | apply Below.setCell | apply Below.alloc | apply Below.drew)
  all_goals (try simp)
  all_goals (try omega)
set_option maxRecDepth 100000 in
set_option maxHeartbeats 4000000 in
theorem yOf_E (nu po tk rf up : Int) (tn : ByteArray) (A : Option Addr) (cap : Nat) (tx : ByteArray) (n : Nat) (w : World) (HK : Hid (∀ V, Below w.heap.size w V → Calls Tryz.prog 38 #[.string tx] V fun e w' => e = .returned (.int .i64 (kOf tx.toList)) ∧ V = w')) (H : Hid (∀ V, Below w.heap.size w V → Calls Tryz.prog 37 #[.agg #[.int .i64 7, .string tx, .int .i64 nu, .int .i64 po, .slice A n cap, .int .i64 tk, .string tn, .int .i64 rf, .int .i64 up]] V fun e w' => e = .returned (.bool true) ∧ Below V.heap.size V w')) : Calls Tryz.prog 13 #[.agg #[.int .i64 7, .string tx, .int .i64 nu, .int .i64 po, .slice A n cap, .int .i64 tk, .string tn, .int .i64 rf, .int .i64 up]] w (Res w (kOf tx.toList) ⟨#[]⟩ true) := by
  obtain ⟨kk, hkk⟩ : ∃ kk, kOf tx.toList = kk := ⟨_, rfl⟩
  rw [hkk] at HK ⊢
  clear hkk
  have HS := Lib.hid (Ob.start w 7 tx nu po tk rf up tn A n cap)
  go_enter Tryz.func13, Tryz.ntmps13
  go_wp2_with fail
  refine (H.out _ HS.out.b).mono ?_
  rintro e V ⟨rfl, hb⟩
  have hS := HS.out.keep hb
  have HS1 := Lib.hid hS
  have q0 := hS.a0
  have q1 := hS.a1
  have qz := hS.z
  have qb : w.heap.size < V.heap.size := by omega
  clear hb hS
  go_wp2_with fail
  refine (HK.out _ HS1.out.b).mono ?_
  rintro e V1 ⟨rfl, rfl⟩
  go_wp2_with fail
  refine (plain_any kk _).mono ?_
  rintro e V2 ⟨rfl, hb⟩
  have hS := HS1.out.keep hb
  clear q0 q1 qz qb
  obtain ⟨r0, r1, rf⟩ := box2 hS.r
  have rf0 := rf 0
  have rf1 := rf 1
  have qz := hS.z
  have q0 := hS.a0
  have q1 := hS.a1
  have qb : w.heap.size < V2.heap.size := by omega
  have e1 : ¬ w.heap.size = w.heap.size + 1 := by omega
  have HB := Lib.hid hS.b
  clear rf
  clear hb hS
  go_wp2
  refine bodyPost_ret (v := .tuple #[tyv kk ⟨#[]⟩, .bool true]) (by simp [results, Tryz.results13, go_sem, qz, qb, r0, r1, rf0, rf1, q0, q1, e1]) rfl ⟨rfl, ?_⟩
  repeat' (first | exact Below.refl _ _ | exact HB.out | apply Below.setCell | apply Below.alloc | apply Below.drew)
  all_goals (try simp)
  all_goals (try omega)
set_option maxRecDepth 100000 in
set_option maxHeartbeats 4000000 in
theorem yOf_any (h : Hd) (k : Fo) (A : Option Addr) (cap : Nat) (w : World) (hG : Glot w) (hk : Kids (Lt w.heap.size) w A k) (hc : k.len ≤ cap) (hn : numIx h) (hF : k.AllH numIx) (hm : k.cnt ≤ 1000000) : Calls Tryz.prog 13 #[nv h A k.len cap] w (OfPost h k.len w) := by
  have HH : ∀ V, Below w.heap.size w V → Calls Tryz.prog 37 #[nv h A k.len cap] V fun e w' => e = .returned (.bool (tyN h k.len)) ∧ Below V.heap.size V w' := fun V hV => yIsType_any h k A cap V (glob_below hG.1 hV) (hk.below hV (Nat.le_refl _) |>.mono hV.size) hc hn hF hm
  obtain ⟨n, en⟩ : ∃ n, k.len = n := ⟨_, rfl⟩
  rw [en] at HH ⊢
  clear en
  obtain ⟨kd, tx, nu, po, tk, tn, rf, up⟩ := h
  have key : ∀ (K : Int) (S : ByteArray) (b : Bool), ofK ⟨kd, tx, nu, po, tk, tn, rf, up⟩ n = K → ofN ⟨kd, tx, nu, po, tk, tn, rf, up⟩ n = S → ofB ⟨kd, tx, nu, po, tk, tn, rf, up⟩ n = b → Calls Tryz.prog 13 #[.agg #[.int .i64 kd, .string tx, .int .i64 nu, .int .i64 po, .slice A n cap, .int .i64 tk, .string tn, .int .i64 rf, .int .i64 up]] w (Res w K S b) → Calls Tryz.prog 13 #[.agg #[.int .i64 kd, .string tx, .int .i64 nu, .int .i64 po, .slice A n cap, .int .i64 tk, .string tn, .int .i64 rf, .int .i64 up]] w (OfPost ⟨kd, tx, nu, po, tk, tn, rf, up⟩ n w) := by
    intro K S b h1 h2 h3 hq
    subst h1; subst h2; subst h3
    exact hq.mono fun e w' h => h
  refine (?_ : Calls Tryz.prog 13 #[.agg #[.int .i64 kd, .string tx, .int .i64 nu, .int .i64 po, .slice A n cap, .int .i64 tk, .string tn, .int .i64 rf, .int .i64 up]] w (OfPost ⟨kd, tx, nu, po, tk, tn, rf, up⟩ n w))
  have HH' : ∀ V, Below w.heap.size w V → Calls Tryz.prog 37 #[.agg #[.int .i64 kd, .string tx, .int .i64 nu, .int .i64 po, .slice A n cap, .int .i64 tk, .string tn, .int .i64 rf, .int .i64 up]] V fun e w' => e = .returned (.bool (tyN ⟨kd, tx, nu, po, tk, tn, rf, up⟩ n)) ∧ Below V.heap.size V w' := HH
  by_cases hno : noN ⟨kd, tx, nu, po, tk, tn, rf, up⟩ n = true
  · have hno' := hno
    unfold noN emp at hno'
    simp at hno'
    obtain ⟨⟨h9, ht⟩, h0⟩ := hno'
    subst h9; subst h0
    obtain rfl : tx = ⟨#[]⟩ := ba_ext (ht.trans (by rw [ByteArray.toList_eq]))
    refine key 0 ⟨#[]⟩ true (by unfold ofK; rw [hno]; rfl) ?_ (by unfold ofB; rw [hno]; rfl) (yOf_A nu po tk rf up tn A cap w)
    unfold ofN tyN; rfl
  · have hno1 : noN ⟨kd, tx, nu, po, tk, tn, rf, up⟩ n = false := by simpa using hno
    by_cases ht : tyN ⟨kd, tx, nu, po, tk, tn, rf, up⟩ n = true
    · rw [ht] at HH'
      have ht' := ht
      unfold tyN typeK at ht'
      simp only [Bool.and_eq_true, Bool.or_eq_true, beq_iff_eq] at ht'
      obtain ⟨⟨h78, hfit⟩, h0⟩ := ht'
      rcases h78 with h7 | h8
      · subst h7
        rw [kind_n7 rfl] at hfit
        exact key _ ⟨#[]⟩ true (by unfold ofK; rw [hno1, ht]; rfl) (by unfold ofN; rw [ht]; rfl) (by unfold ofB; rw [ht]; simp) (yOf_E nu po tk rf up tn A cap tx n w (Lib.hid fun V hV => kindOf_any tx V (hG.below hV) hfit) (Lib.hid HH'))
      · subst h8
        exact key 4 tx true (by unfold ofK; rw [hno1, ht]; rfl) (by unfold ofN; rw [ht]; rfl) (by unfold ofB; rw [ht]; simp) (yOf_D nu po tk rf up tn A cap tx n w (Lib.hid HH'))
    · have ht1 : tyN ⟨kd, tx, nu, po, tk, tn, rf, up⟩ n = false := by simpa using ht
      rw [ht1] at HH'
      refine key 0 ⟨#[]⟩ false (by unfold ofK; rw [hno1, ht1]; rfl) (by unfold ofN; rw [ht1]; rfl) (by unfold ofB; rw [hno1, ht1]; rfl) ?_
      by_cases h9 : kd = 9
      · subst h9
        by_cases he : tx.toList = []
        · obtain rfl : tx = ⟨#[]⟩ := ba_ext (he.trans (by rw [ByteArray.toList_eq]))
          have h0 : ¬ n = 0 := by
            intro e
            subst e
            apply hno
            unfold noN emp
            simp [he]
          exact yOf_B3 nu po tk rf up tn A cap n (by simp; omega) w (Lib.hid HH')
        · exact yOf_B2 nu po tk rf up tn A cap tx n (by simpa using he) (by simpa using he) w (Lib.hid HH')
      · exact yOf_B1 nu po tk rf up tn A cap kd tx n (by simpa using h9) w (Lib.hid HH')
end Go.Proofs.YtijhdlmnoinfiaaGreatDoor
