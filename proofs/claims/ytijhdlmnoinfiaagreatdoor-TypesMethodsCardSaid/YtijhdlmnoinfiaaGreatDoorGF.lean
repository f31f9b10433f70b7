/-
  The walk of the law TypesMethods.
-/
import Derived.Test.YtijhdlmnoinfiaaGreatDoorGA
import Derived.Test.YtijhdlmnoinfiaaGreatDoorFO
import Derived.Test.YtijhdlmnoinfiaaGreatDoorFP
import Derived.Test.YtijhdlmnoinfiaaGreatDoorFQ
import Derived.Test.YtijhdlmnoinfiaaGreatDoorFR
import Derived.Test.YtijhdlmnoinfiaaGreatDoorFS
set_option linter.all false
namespace Go.Proofs.YtijhdlmnoinfiaaGreatDoor
open Go.RowKit T T.Fo Ty
/-- Both methods come to the same. -/
def Both (k : Int) (s nm : ByteArray) : Prop := ∃ (ks : List Int) (r : Int) (b : Bool), ks.length ≤ 2 ∧ (b = true → valB k s = false ∧ 8 ≤ k) ∧ (∀ V, Glob V → Calls Tryz.prog 33 #[tyv k s, .string nm] V (Mt V ks r b)) ∧ (∀ V, Calls Tryz.prog 34 #[tyv k s, .string nm] V (Mt V ks r b))
theorem both_miss {k : Int} {s nm : ByteArray} (h1 : ∀ V, Glob V → Calls Tryz.prog 33 #[tyv k s, .string nm] V (Mt V [] 0 false)) (h2 : ∀ V, Calls Tryz.prog 34 #[tyv k s, .string nm] V (Mt V [] 0 false)) : Both k s nm := ⟨[], 0, false, by simp, by simp, h1, h2⟩
theorem no_value {k : Int} (h : 8 ≤ k) (s : ByteArray) : valB k s = false := by
  unfold valB isK
  rw [rB_out (.inr (by omega)), decide_eq_false (by omega), decide_eq_false (by omega)]
  rfl
theorem both_any (k : Int) (s nm : ByteArray) (hm : s.size ≤ maxLen) : Both k s nm := by
  have bs : ∀ {l : List UInt8} {s : ByteArray}, s.toList = l → s = ⟨l.toArray⟩ := fun {l s} e => by rw [ByteArray.toList_eq] at e; subst e; rfl
  cases hv : vB k s with
  | false => exact both_miss (fun V hG => ymiss_bad k s nm V hm hG hv) (fun V => rmiss_bad k s nm V hm hv)
  | true =>
    by_cases h8 : k = 8
    · subst h8
      have he : s.toList = [] := by
        unfold vB emp at hv
        rw [if_neg (by omega)] at hv
        simp at hv
        exact hv
      obtain rfl : s = ⟨#[]⟩ := bs he
      by_cases qLock : nm.toList = [76, 111, 99, 107]
      · obtain rfl : nm = ⟨#[76, 111, 99, 107]⟩ := bs qLock
        exact ⟨[], 0, true, by simp, fun _ => ⟨no_value (by omega) _, by omega⟩, fun V hG => ym_8_Lock V hG, fun V => rm_8_Lock V⟩
      by_cases qUnlock : nm.toList = [85, 110, 108, 111, 99, 107]
      · obtain rfl : nm = ⟨#[85, 110, 108, 111, 99, 107]⟩ := bs qUnlock
        exact ⟨[], 0, true, by simp, fun _ => ⟨no_value (by omega) _, by omega⟩, fun V hG => ym_8_Unlock V hG, fun V => rm_8_Unlock V⟩
      exact both_miss (fun V hG => ymiss_8 nm V hG (by simpa using qLock) (by simpa using qUnlock)) (fun V => rmiss_8 nm V (by simpa using qLock) (by simpa using qUnlock) rfl rfl)
    by_cases h9 : k = 9
    · subst h9
      have he : s.toList = [] := by
        unfold vB emp at hv
        rw [if_neg (by omega)] at hv
        simp at hv
        exact hv
      obtain rfl : s = ⟨#[]⟩ := bs he
      by_cases qLock : nm.toList = [76, 111, 99, 107]
      · obtain rfl : nm = ⟨#[76, 111, 99, 107]⟩ := bs qLock
        exact ⟨[], 0, true, by simp, fun _ => ⟨no_value (by omega) _, by omega⟩, fun V hG => ym_9_Lock V hG, fun V => rm_9_Lock V⟩
      by_cases qUnlock : nm.toList = [85, 110, 108, 111, 99, 107]
      · obtain rfl : nm = ⟨#[85, 110, 108, 111, 99, 107]⟩ := bs qUnlock
        exact ⟨[], 0, true, by simp, fun _ => ⟨no_value (by omega) _, by omega⟩, fun V hG => ym_9_Unlock V hG, fun V => rm_9_Unlock V⟩
      by_cases qRLock : nm.toList = [82, 76, 111, 99, 107]
      · obtain rfl : nm = ⟨#[82, 76, 111, 99, 107]⟩ := bs qRLock
        exact ⟨[], 0, true, by simp, fun _ => ⟨no_value (by omega) _, by omega⟩, fun V hG => ym_9_RLock V hG, fun V => rm_9_RLock V⟩
      by_cases qRUnlock : nm.toList = [82, 85, 110, 108, 111, 99, 107]
      · obtain rfl : nm = ⟨#[82, 85, 110, 108, 111, 99, 107]⟩ := bs qRUnlock
        exact ⟨[], 0, true, by simp, fun _ => ⟨no_value (by omega) _, by omega⟩, fun V hG => ym_9_RUnlock V hG, fun V => rm_9_RUnlock V⟩
      exact both_miss (fun V hG => ymiss_9 nm V hG (by simpa using qLock) (by simpa using qUnlock) (by simpa using qRLock) (by simpa using qRUnlock)) (fun V => rmiss_9 nm V (by simpa using qLock) (by simpa using qUnlock) (by simpa using qRLock) (by simpa using qRUnlock))
    by_cases h10 : k = 10
    · subst h10
      have he : s.toList = [] := by
        unfold vB emp at hv
        rw [if_neg (by omega)] at hv
        simp at hv
        exact hv
      obtain rfl : s = ⟨#[]⟩ := bs he
      by_cases qDone : nm.toList = [68, 111, 110, 101]
      · obtain rfl : nm = ⟨#[68, 111, 110, 101]⟩ := bs qDone
        exact ⟨[], 0, true, by simp, fun _ => ⟨no_value (by omega) _, by omega⟩, fun V hG => ym_10_Done V hG, fun V => rm_10_Done V⟩
      by_cases qWait : nm.toList = [87, 97, 105, 116]
      · obtain rfl : nm = ⟨#[87, 97, 105, 116]⟩ := bs qWait
        exact ⟨[], 0, true, by simp, fun _ => ⟨no_value (by omega) _, by omega⟩, fun V hG => ym_10_Wait V hG, fun V => rm_10_Wait V⟩
      by_cases qAdd : nm.toList = [65, 100, 100]
      · obtain rfl : nm = ⟨#[65, 100, 100]⟩ := bs qAdd
        exact ⟨[1], 0, true, by simp, fun _ => ⟨no_value (by omega) _, by omega⟩, fun V hG => ym_10_Add V hG, fun V => rm_10_Add V⟩
      exact both_miss (fun V hG => ymiss_10 nm V hG (by simpa using qDone) (by simpa using qWait) (by simpa using qAdd)) (fun V => rmiss_10 nm V (by simpa using qDone) (by simpa using qWait) (by simpa using qAdd))
    by_cases h11 : k = 11
    · subst h11
      have he : s.toList = [] := by
        unfold vB emp at hv
        rw [if_neg (by omega)] at hv
        simp at hv
        exact hv
      obtain rfl : s = ⟨#[]⟩ := bs he
      by_cases qDo : nm.toList = [68, 111]
      · obtain rfl : nm = ⟨#[68, 111]⟩ := bs qDo
        exact ⟨[7], 0, true, by simp, fun _ => ⟨no_value (by omega) _, by omega⟩, fun V hG => ym_11_Do V hG, fun V => rm_11_Do V⟩
      exact both_miss (fun V hG => ymiss_11 nm V hG (by simpa using qDo)) (fun V => rmiss_11 nm V (by simpa using qDo))
    by_cases h12 : k = 12
    · subst h12
      have he : s.toList = [] := by
        unfold vB emp at hv
        rw [if_neg (by omega)] at hv
        simp at hv
        exact hv
      obtain rfl : s = ⟨#[]⟩ := bs he
      by_cases qStore : nm.toList = [83, 116, 111, 114, 101]
      · obtain rfl : nm = ⟨#[83, 116, 111, 114, 101]⟩ := bs qStore
        exact ⟨[1], 0, true, by simp, fun _ => ⟨no_value (by omega) _, by omega⟩, fun V hG => ym_12_Store V hG, fun V => rm_12_Store V⟩
      by_cases qLoad : nm.toList = [76, 111, 97, 100]
      · obtain rfl : nm = ⟨#[76, 111, 97, 100]⟩ := bs qLoad
        exact ⟨[], 1, true, by simp, fun _ => ⟨no_value (by omega) _, by omega⟩, fun V hG => ym_12_Load V hG, fun V => rm_12_Load V⟩
      by_cases qAdd : nm.toList = [65, 100, 100]
      · obtain rfl : nm = ⟨#[65, 100, 100]⟩ := bs qAdd
        exact ⟨[1], 1, true, by simp, fun _ => ⟨no_value (by omega) _, by omega⟩, fun V hG => ym_12_Add V hG, fun V => rm_12_Add V⟩
      by_cases qCompareAndSwap : nm.toList = [67, 111, 109, 112, 97, 114, 101, 65, 110, 100, 83, 119, 97, 112]
      · obtain rfl : nm = ⟨#[67, 111, 109, 112, 97, 114, 101, 65, 110, 100, 83, 119, 97, 112]⟩ := bs qCompareAndSwap
        exact ⟨[1, 1], 2, true, by simp, fun _ => ⟨no_value (by omega) _, by omega⟩, fun V hG => ym_12_CompareAndSwap V hG, fun V => rm_12_CompareAndSwap V⟩
      exact both_miss (fun V hG => ymiss_12 nm V hG (by simpa using qLoad) (by simpa using qStore) (by simpa using qAdd) (by simpa using qCompareAndSwap)) (fun V => rmiss_12 nm V (by simpa using qLoad) (by simpa using qStore) (by simpa using qAdd) (by simpa using qCompareAndSwap))
    exact both_miss (fun V hG => ymiss_k k s nm V hm hG hv (by simpa using h8) (by simpa using h9) (by simpa using h10) (by simpa using h11) (by simpa using h12)) (fun V => rmiss_k k s nm V hm hv (by simpa using h8) (by simpa using h9) (by simpa using h10) (by simpa using h11) (by simpa using h12))

/-- The box of a type that stands. -/
structure Mbx (w : World) (k : Int) (s : ByteArray) (V : World) : Prop where
  z : w.heap.size < V.heap.size
  a0 : V.cell? ⟨w.heap.size, 0, none⟩ = some (.int .i64 k)
  a1 : V.cell? ⟨w.heap.size, 1, none⟩ = some (.string s)
  b : Below w.heap.size w V
theorem Mbx.start (w : World) (k : Int) (s : ByteArray) : Mbx w k s (w.alloc (.cells #[.int .i64 k, .string s] 24)) :=
  have h := box2 (heap_alloc_new w (.cells #[.int .i64 k, .string s] 24))
  ⟨by simp, h.1, h.2.1, b1 w _⟩
theorem Mbx.keep {w V V' : World} {k : Int} {s : ByteArray} (h : Mbx w k s V) (hb : Below V.heap.size V V') : Mbx w k s V' :=
  ⟨Nat.lt_of_lt_of_le h.z hb.size, (hb.cell (p := ⟨w.heap.size, 0, none⟩) h.z).trans h.a0, (hb.cell (p := ⟨w.heap.size, 1, none⟩) h.z).trans h.a1, h.b.trans (hb.mono (Nat.le_of_lt h.z))⟩
theorem same_rows {ks : List Int} (hl : ks.length ≤ 2) {n : Nat} (hn : ks.length = n) (V : World) (A B : Option Addr) (hA : TRow V A ks) (hB : TRow V B ks) : Calls Tryz.prog 35 #[.slice A n n, .slice B n n] V fun e w' => e = .returned (.bool true) ∧ Below V.heap.size V w' := by
  subst hn
  rcases hA with rfl | ⟨a, rfl, ha, _⟩
  · exact same0 A B V
  · rcases hB with rfl | ⟨b, rfl, hb, _⟩
    · exact same0 _ B V
    · exact same_n a b ks V (by omega) ha hb
set_option maxRecDepth 100000 in
set_option maxHeartbeats 8000000 in
theorem methods_law (k : Int) (s nm : ByteArray) (w : World) (hG : Glot w) (hm : s.size ≤ maxLen) : Calls Tryz.prog 9 #[tyv k s, .string nm] w fun e w' => e = .returned (.bool true) ∧ Below w.heap.size w w' := by
  obtain ⟨ks, r, b, hl, hb8, hy, hr⟩ := both_any k s nm hm
  obtain ⟨n, hn⟩ : ∃ n, ks.length = n := ⟨_, rfl⟩
  have HA : Hid (∀ V, Below w.heap.size w V → Calls Tryz.prog 10 #[] V fun e w' => e = .returned (.bool true) ∧ Below V.heap.size V w') := Lib.hid fun V hV => awake_any V (hG.below hV)
  have HY : Hid (∀ V, Below w.heap.size w V → Calls Tryz.prog 33 #[tyv k s, .string nm] V fun e w' => ∃ A, e = .returned (.tuple #[.slice A n n, tyv r ⟨#[]⟩, .bool b]) ∧ TRow w' A ks ∧ Below V.heap.size V w') := Lib.hid fun V hV => (hy V (glob_below hG.1 hV)).mono fun e w' hq => by
    obtain ⟨A, he, hA, hb⟩ := hq
    rw [hn] at he
    exact ⟨A, he, hA, hb⟩
  have HR : Hid (∀ V, Calls Tryz.prog 34 #[tyv k s, .string nm] V fun e w' => ∃ A, e = .returned (.tuple #[.slice A n n, tyv r ⟨#[]⟩, .bool b]) ∧ TRow w' A ks ∧ Below V.heap.size V w') := Lib.hid fun V => (hr V).mono fun e w' hq => by
    obtain ⟨A, he, hA, hb⟩ := hq
    rw [hn] at he
    exact ⟨A, he, hA, hb⟩
  have HS : Hid (∀ V A B, TRow V A ks → TRow V B ks → Calls Tryz.prog 35 #[.slice A n n, .slice B n n] V fun e w' => e = .returned (.bool true) ∧ Below V.heap.size V w') := Lib.hid fun V A B hA hB => same_rows hl hn V A B hA hB
  have H1 := Lib.hid (Mbx.start w k s)
  have err : (r != r) = false := by simp
  have ebb : (b != b) = false := by simp
  have fin : b = false ∨ b = true ∧ 8 ≤ k ∧ Hid (∀ V, Below w.heap.size w V → Calls Tryz.prog 20 #[tyv k s] V fun e w' => e = .returned (.bool false) ∧ Below V.heap.size V w') := by
    cases b with
    | false => exact .inl rfl
    | true =>
      obtain ⟨h1, h2⟩ := hb8 rfl
      exact .inr ⟨rfl, h2, Lib.hid fun V hV => h1 ▸ yvalue_any k s V hm (glob_below hG.1 hV)⟩
  clear hG hm hl hb8 hy hr hn
  rcases fin with rfl | ⟨rfl, h8, HV⟩
  all_goals
    clear ebb
    go_enter Tryz.func9, Tryz.ntmps9
    go_wp2_with fail
    refine (HA.out _ H1.out.b).mono ?_
    rintro e V ⟨rfl, hb⟩
    have H2 := Lib.hid (H1.out.keep hb)
    obtain ⟨z, a0, a1, _⟩ := H2.out
    clear hb
    go_wp2_with fail
    refine (HY.out _ H2.out.b).mono ?_
    rintro e V1 ⟨A, rfl, hA, hb⟩
    have H3 := Lib.hid (H2.out.keep hb)
    have HRA := Lib.hid hA
    clear hb hA z a0 a1
    obtain ⟨z, a0, a1, _⟩ := H3.out
    go_wp2_with fail
    refine (HR.out _).mono ?_
    rintro e V2 ⟨B, rfl, hB, hb⟩
    have hb2 := hb
    have H4 := Lib.hid ((H3.out.keep (b1 V1 (.cells #[.int .i64 r, .string ⟨#[]⟩] 24))).keep hb)
    have HRB := Lib.hid hB
    have HRA2 := Lib.hid ((HRA.out.keep (b1 V1 (.cells #[.int .i64 r, .string ⟨#[]⟩] 24))).keep hb)
    obtain ⟨c0, c1, _⟩ := box2 ((hb.block V1.heap.size (by simp)).trans (heap_alloc_new V1 (.cells #[.int .i64 r, .string ⟨#[]⟩] 24)))
    have cz : V1.heap.size < V2.heap.size := by have := hb.size; simp at this; omega
    clear hb hb2 hB z a0 a1
    obtain ⟨z, a0, a1, _⟩ := H4.out
    have n1 : ¬ V1.heap.size = V2.heap.size := by omega
    go_wp2_with fail
    refine (HS.out _ _ _ (HRA2.out.keep (b1 V2 _)) (HRB.out.keep (b1 V2 _))).mono ?_
    rintro e V3 ⟨rfl, hb⟩
    have H5 := Lib.hid ((H4.out.keep (b1 V2 (.cells #[.int .i64 r, .string ⟨#[]⟩] 24))).keep hb)
    clear hb z a0 a1 c0 c1
    obtain ⟨z, a0, a1, _⟩ := H5.out
    first
      | (go_wp2
         go_ret
         exact ⟨rfl, H5.out.b⟩)
      | (go_wp2_with fail
         refine (HV.out _ H5.out.b).mono ?_
         rintro e V4 ⟨rfl, hb⟩
         have H6 := Lib.hid (H5.out.keep hb)
         clear hb z a0 a1
         obtain ⟨z, a0, a1, _⟩ := H6.out
         go_wp2
         go_ret
         exact ⟨rfl, H6.out.b⟩)
end Go.Proofs.YtijhdlmnoinfiaaGreatDoor
