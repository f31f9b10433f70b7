/-
  The walks of the specification's isNone, typeName, IsType, BinaryOp; children of a node.
-/
import Derived.Test.YticbcnhbpbaocaaGreatDoorRB
import Derived.Test.YticbcnhbpbaocaaGreatDoorRA
import Derived.Test.YticbcnhbpbaocaaGreatDoorCB
import Derived.Deep.RegionHeld3
set_option linter.all false
namespace Go.Proofs.YticbcnhbpbaocaaGreatDoor
open Go.RowKit T T.Fo
theorem in_yes' {l : List (List UInt8)} {s t : List UInt8} (h : (s == t) = true) (ht : l.contains t = true) : true = l.contains s := by
  rw [beq_iff_eq] at h; subst h; exact ht.symm
abbrev nmv : ByteArray → Bool := fun s => M.nmB s.data.toList
theorem b1 (w : World) (o : Obj) : Below w.heap.size w (w.alloc o) := (Below.refl _ _).alloc (Nat.le_refl _) _
theorem ieq (n m : Nat) : ((n : Int) == (m : Int)) = decide (n = m) := by
  by_cases h : n = m
  · simp [h]
  · have : ¬ (n : Int) = m := by omega
    simp [h, this]
theorem ieq0 (n : Nat) : ((n : Int) == 0) = decide (n = 0) := ieq n 0
theorem ieq1 (n : Nat) : ((n : Int) == 1) = decide (n = 1) := ieq n 1
theorem ieq2 (n : Nat) : ((n : Int) == 2) = decide (n = 2) := ieq n 2
theorem ba_nil {s : ByteArray} (h : s.toList = []) : s = ⟨#[]⟩ := by
  rw [ByteArray.toList_eq] at h
  exact ByteArray.ext (Array.toList_inj.1 h)
theorem emp_iff (s : ByteArray) : (s.data.toList == []) = s.toList.isEmpty := by rw [ByteArray.toList_eq]; cases s.data.toList <;> rfl
theorem bcell' {W w1 : World} (hb : Below W.heap.size W w1) : (∀ b o, b < W.heap.size → w1.cell? ⟨b, o, none⟩ = W.cell? ⟨b, o, none⟩) := fun b o h => hb.cell (p := ⟨b, o, none⟩) h
def numOkv (h : Hd) : Prop := numIx h
def Ok (h : Hd) (k : Fo) : Prop := numIx h ∧ k.AllH numIx ∧ k.cnt ≤ 1048576
theorem Ok.kid {h h0 : Hd} {k0 r : Fo} (H : Ok h (.cons h0 k0 r)) : Ok h0 k0 ∧ Ok h r := by
  obtain ⟨a, ⟨b, c, d⟩, e⟩ := H
  simp only [Fo.cnt] at e
  exact ⟨⟨b, c, by omega⟩, ⟨a, d, by omega⟩⟩
theorem kidv1 {w : World} {A : Option Addr} {h0 : Hd} {k0 : Fo} (hk : Kids (Lt w.heap.size) w A (.cons h0 k0 .nil)) : ∃ g o A0 c0, A = some ⟨g, o, none⟩ ∧ At9 w g o h0 A0 k0.len c0 ∧ Kids (Lt w.heap.size) w A0 k0 ∧ g < w.heap.size := by
  obtain ⟨g, o, A0, c0, rfl, h9, hc, hk0, _, _, hg⟩ := (Rest.start hk).next
  rw [show o + 0 * 9 = o by omega] at h9
  exact ⟨g, o, A0, c0, rfl, h9, hk0, hg⟩
theorem kid2 {w : World} {A : Option Addr} {h0 h1 : Hd} {k0 k1 : Fo} (hk : Kids (Lt w.heap.size) w A (.cons h0 k0 (.cons h1 k1 .nil))) : ∃ g o A0 c0 A1 c1, A = some ⟨g, o, none⟩ ∧ At9 w g o h0 A0 k0.len c0 ∧ Kids (Lt w.heap.size) w A0 k0 ∧ At9 w g (o + 9) h1 A1 k1.len c1 ∧ Kids (Lt w.heap.size) w A1 k1 ∧ g < w.heap.size := by
  obtain ⟨g, o, A0, c0, rfl, h9, hc, hk0, hr, _, hg⟩ := (Rest.start hk).next
  obtain ⟨g', o', A1, c1, e, h9', hc', hk1, _, _, _⟩ := hr.next
  cases e
  rw [show o + 0 * 9 = o by omega] at h9
  rw [show o + (0 + 1) * 9 = o + 9 by omega] at h9'
  exact ⟨g, o, A0, c0, A1, c1, rfl, h9, hk0, h9', hk1, hg⟩
theorem kid3 {w : World} {A : Option Addr} {h0 h1 h2 : Hd} {k0 k1 k2 : Fo} (hk : Kids (Lt w.heap.size) w A (.cons h0 k0 (.cons h1 k1 (.cons h2 k2 .nil)))) : ∃ g o A0 c0 A1 c1 A2 c2, A = some ⟨g, o, none⟩ ∧ At9 w g o h0 A0 k0.len c0 ∧ Kids (Lt w.heap.size) w A0 k0 ∧ At9 w g (o + 9) h1 A1 k1.len c1 ∧ Kids (Lt w.heap.size) w A1 k1 ∧ At9 w g (o + 18) h2 A2 k2.len c2 ∧ Kids (Lt w.heap.size) w A2 k2 ∧ g < w.heap.size := by
  obtain ⟨g, o, A0, c0, rfl, h9, hc, hk0, hr, _, hg⟩ := (Rest.start hk).next
  obtain ⟨g', o', A1, c1, e, h9', hc', hk1, hr', _, _⟩ := hr.next
  cases e
  obtain ⟨g'', o'', A2, c2, e, h9'', hc'', hk2, _, _, _⟩ := hr'.next
  cases e
  rw [show o + 0 * 9 = o by omega] at h9
  rw [show o + (0 + 1) * 9 = o + 9 by omega] at h9'
  rw [show o + (0 + 1 + 1) * 9 = o + 18 by omega] at h9''
  exact ⟨g, o, A0, c0, A1, c1, A2, c2, rfl, h9, hk0, h9', hk1, h9'', hk2, hg⟩
/-- A contract that answers by a Bool. -/
abbrev CB' (f : FuncId) (w : World) (v : Value) (b : Bool) : Prop := Calls Tryz.prog f #[v] w fun e w' => e = .returned (.bool b) ∧ Below w.heap.size w w'
/-- The same at every later world. -/
abbrev At (f : FuncId) (w : World) (v : Value) (b : Bool) : Prop := ∀ V, Below w.heap.size w V → CB' f V v b
theorem okT_none (h : Hd) (k : Fo) (e : h.kind = 9) : okT nmv h k = (h.text.toList.isEmpty && decide (k.len = 0)) := by
  rw [okT_of nmv (l := []) (by rw [e]; rfl), fitv_nil, ← emp_iff]
  have : textFits nmv h = (h.text.data.toList == []) := by unfold textFits namedK; rw [e]; rfl
  have n : numFits h = true := by unfold numFits; rw [e]; rfl
  rw [this, n]; simp
theorem noOk_eq (h : Hd) (k : Fo) : noOk nmv h k = (decide (h.kind = 9) && (h.text.toList.isEmpty && decide (k.len = 0))) := by
  unfold noOk
  by_cases e : h.kind = 9
  · rw [okT_none h k e]
  · simp [e]
theorem isNone_any (h : Hd) (k : Fo) (A : Option Addr) (cap : Nat) (w : World) : CB' 48 w (nv h A k.len cap) (noOk nmv h k) := by
  have HX := Lib.hid (noOk_eq h k)
  obtain ⟨n, hn⟩ : ∃ n, k.len = n := ⟨_, rfl⟩
  rw [hn] at HX ⊢
  clear hn
  go_enter Tryz.func48, Tryz.ntmps48
  go_wp2
  all_goals go_ret
  all_goals exact ⟨ret_bool (by rw [HX.out]; first | (simp_all; done) | (simp_all [ieq0]; done)), b1 _ _⟩
theorem typeName_any (s : ByteArray) (w : World) : Calls Tryz.prog 68 #[.string s] w fun e w' => e = .returned (.bool (T.isTypeText s)) ∧ w = w' := by
  have e : T.isTypeText s = typeWords.contains s.toList := by unfold T.isTypeText; rw [ByteArray.toList_eq]
  rw [e]
  go_enter Tryz.func68, Tryz.ntmps68
  go_wp2
  all_goals go_ret
  all_goals refine ⟨ret_bool ?_, rfl⟩
  all_goals first
    | (refine in_yes' (by assumption) (by decide))
    | (simp_all [typeWords])
theorem rBinary_any (s : ByteArray) (w : World) : Calls Tryz.prog 90 #[.string s] w fun e w' => e = .returned (.bool (T.isBinary s)) ∧ w = w' := by
  have e : T.isBinary s = binWords.contains s.toList := by unfold T.isBinary; rw [ByteArray.toList_eq]
  rw [e]
  go_enter Tryz.func90, Tryz.ntmps90
  go_wp2
  all_goals go_ret
  all_goals refine ⟨ret_bool ?_, rfl⟩
  all_goals first
    | (refine in_yes' (by assumption) (by decide))
    | (simp_all [binWords])
theorem tyOk_8 (h : Hd) (k : Fo) (e : h.kind = 8) : tyOk nmv h k = (nmv h.text && decide (k.len = 0)) := by
  unfold tyOk
  rw [okT_of nmv (l := []) (by rw [e]; rfl), fitv_nil]
  have : textFits nmv h = nmv h.text := by unfold textFits namedK; rw [e]; rfl
  have n : numFits h = true := by unfold numFits; rw [e]; rfl
  rw [this, n, e]; simp [typeK]
theorem tyOk_7 (h : Hd) (k : Fo) (e : h.kind = 7) : tyOk nmv h k = (T.isTypeText h.text && decide (k.len = 0)) := by
  unfold tyOk
  rw [okT_of nmv (l := []) (by rw [e]; rfl), fitv_nil]
  have : textFits nmv h = T.isTypeText h.text := by unfold textFits namedK; rw [e]; rfl
  have n : numFits h = true := by unfold numFits; rw [e]; rfl
  rw [this, n, e]; simp [typeK]
set_option maxRecDepth 100000 in
set_option maxHeartbeats 1000000 in
theorem rIsType_any (h : Hd) (k : Fo) (A : Option Addr) (cap : Nat) (w : World) (hm : h.text.size ≤ maxLen) : CB' 49 w (nv h A k.len cap) (tyOk nmv h k) := by
  have HN : Hid (∀ W, Calls Tryz.prog 45 #[.string h.text] W fun e w' => e = .returned (.bool (nmv h.text)) ∧ W = w') := Lib.hid fun W => rname_any _ W hm
  obtain ⟨v, hv⟩ : ∃ v, nmv h.text = v := ⟨_, rfl⟩
  rw [hv] at HN
  have HV := Lib.hid hv
  clear hv
  by_cases h8 : h.kind = 8
  · have HT : Hid (tyOk nmv h k = (v && decide (k.len = 0))) := Lib.hid (by rw [tyOk_8 h k h8, HV.out])
    have e8 : (h.kind == 8) = true := by simp [h8]
    obtain ⟨n, hn⟩ : ∃ n, k.len = n := ⟨_, rfl⟩
    rw [hn] at HT ⊢
    clear h8 hm hn
    go_enter Tryz.func49, Tryz.ntmps49
    go_wp2_with (go_at_call 45; refine (HN.out _).mono ?_; rintro e w' ⟨rfl, rfl⟩)
    all_goals go_ret
    all_goals exact ⟨ret_bool (by rw [HT.out]; first | (simp_all; done) | (simp_all [ieq0]; done)), b1 _ _⟩
  · by_cases h7 : h.kind = 7
    · have HT : Hid (tyOk nmv h k = (T.isTypeText h.text && decide (k.len = 0))) := Lib.hid (tyOk_7 h k h7)
      have e8 : (h.kind == 8) = false := by simp [h8]
      have e7 : (h.kind == 7) = true := by simp [h7]
      obtain ⟨n, hn⟩ : ∃ n, k.len = n := ⟨_, rfl⟩
      rw [hn] at HT ⊢
      clear h8 h7 hm hn
      go_enter Tryz.func49, Tryz.ntmps49
      go_wp2_with (go_at_call 68; refine (typeName_any _ _).mono ?_; rintro e w' ⟨rfl, rfl⟩)
      all_goals go_ret
      all_goals exact ⟨ret_bool (by rw [HT.out]; first | (simp_all; done) | (simp_all [ieq0]; done)), b1 _ _⟩
    · have HT : Hid (tyOk nmv h k = false) := Lib.hid (by unfold tyOk typeK; simp [h7, h8])
      have e8 : (h.kind == 8) = false := by simp [h8]
      have e7 : (h.kind == 7) = false := by simp [h7]
      clear h8 h7 hm
      go_enter Tryz.func49, Tryz.ntmps49
      go_wp2
      go_ret
      exact ⟨ret_bool HT.out.symm, b1 _ _⟩
end Go.Proofs.YticbcnhbpbaocaaGreatDoor
