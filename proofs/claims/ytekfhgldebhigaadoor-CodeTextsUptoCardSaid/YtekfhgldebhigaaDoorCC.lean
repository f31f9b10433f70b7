/-
  The walks of the program's leadingCases, hasCases.
-/
import Derived.Test.YtekfhgldebhigaaDoorCB
set_option linter.all false
namespace Go.Proofs.YtekfhgldebhigaaDoor
open Go.RowKit C
theorem lead_take : ∀ (l : List In) (k : Nat), k ≤ l.length → (∀ i (h : i < k) (h2 : i < l.length), l[i].op = 51) → (k = l.length ∨ ∃ h : k < l.length, ¬ l[k].op = 51) → leadC l = k
  | [], k, hk, _, _ => by simp at hk; simp [leadC, hk]
  | x :: r, 0, _, _, hs => by
    rcases hs with hs | ⟨_, hs⟩
    · simp at hs
    · simp only [List.getElem_cons_zero] at hs; simp [leadC, hs]
  | x :: r, k + 1, hk, ha, hs => by
    have h0 := ha 0 (by omega) (by simp)
    simp only [List.getElem_cons_zero] at h0
    have := lead_take r k (by simpa using hk) (fun i h h2 => by have := ha (i + 1) (by omega) (by simpa using h2); simpa using this) (by
      rcases hs with hs | ⟨h, hs⟩
      · left; simpa using hs
      · right; exact ⟨by simpa using h, by simpa using hs⟩)
    simp [leadC, h0, this]
theorem lead_le : ∀ l : List In, leadC l ≤ l.length
  | [] => Nat.le_refl _
  | x :: r => by unfold leadC; have := lead_le r; split <;> simp <;> omega
theorem ret_sl {A : Option Addr} {a b c : Nat} (h : a = b) : Ending.returned (.slice A a c) = .returned (.slice A b c) := by rw [h]
set_option maxHeartbeats 4000000 in
theorem lead_any (A : Option Addr) (l : List In) (cap : Nat) (w : World) (hl : l.length ≤ maxLen) (hc : l.length ≤ cap) (hr : Row 5 (InAt w) A l) :
    Calls Tryd.prog 38 #[.slice A l.length cap] w fun e w' => e = .returned (.slice A (leadC l) cap) ∧ Below w.heap.size w w' := by
  unfold maxLen at hl
  have HR := Lib.hid hr
  clear hr
  go_enter Tryd.func38, Tryd.ntmps38
  go_wp2
  go_loopw [7] (fun i wr => ∃ k : Nat, k ≤ l.length ∧ i = .int .i64 k ∧ Hid (∀ i (h : i < k) (h2 : i < l.length), l[i].op = 51) ∧ Hid (Below w.heap.size w wr)) (fun i _ => l.length - (intOf i).toNat)
  case atStart => exact ⟨0, Nat.zero_le _, rfl, Lib.hid (fun i h => absurd h (Nat.not_lt_zero _)), Lib.hid (Below.refl _ _)⟩
  case round =>
    obtain ⟨k, hk, rfl, hok, hb⟩ := hrel
    by_cases hlt : k < l.length
    · obtain ⟨g, o, rfl, hh⟩ := HR.out.at (by omega)
      have hx := (hh k hlt).below hb.out
      obtain ⟨x, hxe⟩ : ∃ x, l[k] = x := ⟨_, rfl⟩
      rw [hxe] at hx
      have HX := Lib.hid hxe
      have q0 := hx.c0
      have q1 := hx.c1
      have q2 := hx.c2
      have q3 := hx.c3
      have q4 := hx.c4
      clear hx hh hxe
      by_cases h51 : x.op = 51
      · have e1 : ((x.op : Int) != 51) = false := by simp [h51]
        have HE := Lib.hid h51
        clear h51
        go_wp2
        go_roundw
        case rel => exact ⟨k + 1, by omega, by go_num, Lib.hid (fun i h h2 => by
          by_cases e : i = k
          · subst e; rw [HX.out, HE.out]
          · exact hok.out i (by omega) h2), Lib.hid (hb.out.alloc hb.out.size _)⟩
        case measure => simp [intOf]; omega
      · have e1 : ((x.op : Int) != 51) = true := by simp [h51]
        have hfin : leadC l = k := lead_take l k hk hok.out (.inr ⟨hlt, by rw [HX.out]; exact h51⟩)
        have HF := Lib.hid hfin
        clear hfin
        have k0 : (0 : Int) ≤ (k : Int) := by omega
        have k1 : (k : Int) ≤ (cap : Int) := by omega
        go_wp2
        go_ret
        exact ⟨ret_sl HF.out.symm, hb.out.alloc hb.out.size _⟩
    · have hfin : leadC l = l.length := lead_take l _ (Nat.le_refl _) (fun i h h2 => hok.out i (by omega) h2) (.inl rfl)
      have HF := Lib.hid hfin
      clear hfin
      obtain rfl : k = l.length := by omega
      go_wp2
      go_ret
      exact ⟨ret_sl HF.out.symm, hb.out⟩
theorem Row.drop {α : Type} {k : Nat} {R : α → Nat → Nat → Prop} {g o : Nat} {l : List α} (h : ∀ i (h : i < l.length), R l[i] g (o + i * k)) (n : Nat) : Row k R (some ⟨g, o + n * k, none⟩) (l.drop n) :=
  .inr ⟨g, o + n * k, rfl, fun i hi => by
    have := h (n + i) (by simp at hi; omega)
    rw [List.getElem_drop, Nat.add_assoc, ← Nat.add_mul]; exact this⟩
theorem tails_drop {l : List In} {k : Nat} (h : k < l.length) : tailsOk (l.drop k) = ((decide (l[k].op = 51) || decide ((leadC (l.drop (k + 1)) : Int) = if l[k].op = 50 then l[k].b else 0)) && tailsOk (l.drop (k + 1))) := by
  rw [List.drop_eq_getElem_cons h, tailsOk]
theorem tails_bad : ∀ (l : List In) (k : Nat), tailsOk (l.drop k) = false → tailsOk l = false
  | l, 0, h => by simpa using h
  | [], k + 1, h => by simp [tailsOk] at h
  | x :: r, k + 1, h => by
    have := tails_bad r k (by simpa using h)
    rw [tailsOk, this, Bool.and_false]
theorem cut_row {g o : Nat} {w : World} {l : List In} {cap n : Nat} (hc : l.length ≤ cap) (h : ∀ i (h : i < l.length), InAt w l[i] g (o + i * 5)) : Row 5 (InAt w) (if cap = n then some ⟨g, o, none⟩ else some ⟨g, o + n * 5, none⟩) (l.drop n) := by
  by_cases e : cap = n
  · rw [if_pos e]; left; rw [List.drop_eq_nil_iff]; omega
  · rw [if_neg e]; exact Row.drop h n
set_option maxHeartbeats 8000000 in
theorem hasCases_any (f : Fc) (Af : Option Addr) (caf : Nat) (w : World) (hf : FvOk w f Af caf) (h0 : 0 < f.code.length) (h1000 : f.code.length ≤ 1000) (hi : ∀ x ∈ f.code, i64 x.b) :
    Calls Tryd.prog 34 #[fv f Af caf] w fun e w' => e = .returned (.bool (casesP f)) ∧ Below w.heap.size w w' := by
  obtain ⟨g, o, rfl, hr⟩ := hf.row.at h0
  have hm := hf.k.2
  have hcap := hf.k.1
  unfold maxLen at hm
  have HR := Lib.hid hr
  have HB := below1 w (.cells #[.string f.name, .int .i64 f.params, .int .i64 f.regs, .slice (some ⟨g, o, none⟩) f.code.length caf] 37)
  have q3 : (w.alloc (.cells #[.string f.name, .int .i64 f.params, .int .i64 f.regs, .slice (some ⟨g, o, none⟩) f.code.length caf] 37)).cell? ⟨w.heap.size, 3, none⟩ = some (.slice (some ⟨g, o, none⟩) f.code.length caf) := by rw [cell_of_row _ _ _ _ _ _ (heap_alloc_new _ _)]; rfl
  have hgl := (hr 0 h0).lt
  have HBB := Lib.hid HB
  clear hr hf HB
  go_enter Tryd.func34, Tryd.ntmps34
  go_wp2
  go_loopw [9] (fun i wr => ∃ k : Nat, k ≤ f.code.length ∧ i = .int .i64 k ∧ Hid (tailsOk f.code = tailsOk (f.code.drop k)) ∧ Hid (Below w.heap.size w wr) ∧ w.heap.size < wr.heap.size ∧ wr.cell? ⟨w.heap.size, 3, none⟩ = some (.slice (some ⟨g, o, none⟩) f.code.length caf)) (fun i _ => f.code.length - (intOf i).toNat)
  case atStart => exact ⟨0, Nat.zero_le _, rfl, Lib.hid rfl, HBB, by simp, q3⟩
  case round =>
    clear q3
    obtain ⟨k, hk, rfl, hok, hb, hsz, q3⟩ := hrel
    by_cases hlt : k < f.code.length
    · have hx := (HR.out k hlt).below hb.out
      obtain ⟨x, hxe⟩ : ∃ x, f.code[k] = x := ⟨_, rfl⟩
      have hmem : x ∈ f.code := hxe ▸ List.getElem_mem hlt
      have hxb := hi x hmem
      rw [hxe] at hx
      have HX := Lib.hid hxe
      have q0 := hx.c0
      have q1 := hx.c1
      have q2 := hx.c2
      have q30 := hx.c3
      have q4 := hx.c4
      have HS : Hid (tailsOk (f.code.drop k) = ((decide (x.op = 51) || decide ((leadC (f.code.drop (k + 1)) : Int) = if x.op = 50 then x.b else 0)) && tailsOk (f.code.drop (k + 1)))) := Lib.hid (by rw [tails_drop hlt, hxe])
      have HQ : Hid (∀ W, Below wr.heap.size wr W → Below w.heap.size w W ∧ w.heap.size < W.heap.size ∧ W.cell? ⟨w.heap.size, 3, none⟩ = some (.slice (some ⟨g, o, none⟩) f.code.length caf)) := Lib.hid fun W hW =>
        ⟨hb.out.trans (hW.mono hb.out.size), by have := hW.size; omega, by rw [bl_cell hW hsz]; exact q3⟩
      have hnew : w.heap.size ≠ wr.heap.size := by omega
      clear hx hxe hmem hxb
      by_cases h51 : x.op = 51
      · have e1 : ((x.op : Int) != 51) = false := by simp [h51]
        have e2 : ((x.op : Int) == 50) = false := by simp [h51]
        have HT : Hid (tailsOk (f.code.drop k) = tailsOk (f.code.drop (k + 1))) := Lib.hid (by rw [HS.out]; simp [h51])
        clear h51
        go_wp2
        go_roundw
        case rel => exact ⟨k + 1, by omega, by go_num, Lib.hid (by rw [hok.out, HT.out]), Lib.hid (HQ.out _ (below1 _ _)).1, (HQ.out _ (below1 _ _)).2.1, (HQ.out _ (below1 _ _)).2.2⟩
        case measure => simp [intOf]; omega
      · have e1 : ((x.op : Int) != 51) = true := by simp [h51]
        have k0 : (0 : Int) ≤ (k : Int) + 1 := by omega
        have k1 : (k : Int) + 1 ≤ (f.code.length : Int) := by omega
        have k2 : (f.code.length : Int) ≤ (caf : Int) := by omega
        obtain ⟨m, hm2⟩ : ∃ m, leadC (f.code.drop (k + 1)) = m := ⟨_, rfl⟩
        rw [hm2] at HS
        have hm3 : m ≤ 1000 := by have := lead_le (f.code.drop (k + 1)); simp at this; omega
        have HL : Hid (∀ V, Hid (Below w.heap.size w V) → ∀ n c, n = f.code.length - (k + 1) ∧ c = caf - (k + 1) → Calls Tryd.prog 38 #[.slice (if caf = k + 1 then some ⟨g, o, none⟩ else some ⟨g, o + (k + 1) * 5, none⟩) n c] V fun e w' => e = .returned (.slice (if caf = k + 1 then some ⟨g, o, none⟩ else some ⟨g, o + (k + 1) * 5, none⟩) m c) ∧ Below V.heap.size V w') := Lib.hid fun V hV n c ⟨hn, hc⟩ => by
          have hl2 : (f.code.drop (k + 1)).length = n := by rw [List.length_drop, hn]
          have := lead_any (if caf = k + 1 then some ⟨g, o, none⟩ else some ⟨g, o + (k + 1) * 5, none⟩) (f.code.drop (k + 1)) c V (by unfold maxLen; rw [hl2]; omega) (by rw [hl2]; omega) (cut_row hcap fun i h => (HR.out i h).below hV.out)
          rw [hl2, hm2] at this
          exact this
        clear hm2
        by_cases h50 : x.op = 50
        · have e2 : ((x.op : Int) == 50) = true := by simp [h50]
          by_cases hmm : (m : Int) = x.b
          · by_cases hcut : caf = k + 1
            · simp only [if_pos hcut] at HL
              subst hcut
              have e5 : ((m : Int) != x.b) = false := by simp; omega
              have HT : Hid (tailsOk (f.code.drop k) = tailsOk (f.code.drop (k + 1))) := Lib.hid (by rw [HS.out]; simp [h51, h50]; intro _; omega)
              clear h51 h50
              go_wp2_with (go_at_call 38; (with_reducible refine (HL.out _ (Lib.hid ?_) _ _ ?_).mono ?_); (exact (Below.alloc hb.out hb.out.size _)); omega; rintro e w3 ⟨rfl, hw3⟩)
              go_roundw
              case rel => exact ⟨k + 1, by omega, by go_num, Lib.hid (by rw [hok.out, HT.out]), Lib.hid (HQ.out _ ((below1 _ _).trans (hw3.mono (by simp)))).1, (HQ.out _ ((below1 _ _).trans (hw3.mono (by simp)))).2.1, (HQ.out _ ((below1 _ _).trans (hw3.mono (by simp)))).2.2⟩
              case measure => simp [intOf]; omega
            · simp only [if_neg hcut] at HL
              have e5 : ((m : Int) != x.b) = false := by simp; omega
              have HT : Hid (tailsOk (f.code.drop k) = tailsOk (f.code.drop (k + 1))) := Lib.hid (by rw [HS.out]; simp [h51, h50]; intro _; omega)
              clear h51 h50
              go_wp2_with (go_at_call 38; (with_reducible refine (HL.out _ (Lib.hid ?_) _ _ ?_).mono ?_); (exact (Below.alloc hb.out hb.out.size _)); omega; rintro e w3 ⟨rfl, hw3⟩)
              go_roundw
              case rel => exact ⟨k + 1, by omega, by go_num, Lib.hid (by rw [hok.out, HT.out]), Lib.hid (HQ.out _ ((below1 _ _).trans (hw3.mono (by simp)))).1, (HQ.out _ ((below1 _ _).trans (hw3.mono (by simp)))).2.1, (HQ.out _ ((below1 _ _).trans (hw3.mono (by simp)))).2.2⟩
              case measure => simp [intOf]; omega
          · by_cases hcut : caf = k + 1
            · simp only [if_pos hcut] at HL
              subst hcut
              have e5 : ((m : Int) != x.b) = true := by simp; omega
              have HF : Hid (casesP f = false) := Lib.hid (by unfold casesP; rw [hok.out, HS.out]; simp [h51, h50]; intro h; omega)
              clear h51 h50
              go_wp2_with (go_at_call 38; (with_reducible refine (HL.out _ (Lib.hid ?_) _ _ ?_).mono ?_); (exact (Below.alloc hb.out hb.out.size _)); omega; rintro e w3 ⟨rfl, hw3⟩)
              go_ret
              exact ⟨retb HF.out.symm, (HQ.out _ ((below1 _ _).trans (hw3.mono (by simp)))).1⟩
            · simp only [if_neg hcut] at HL
              have e5 : ((m : Int) != x.b) = true := by simp; omega
              have HF : Hid (casesP f = false) := Lib.hid (by unfold casesP; rw [hok.out, HS.out]; simp [h51, h50]; intro h; omega)
              clear h51 h50
              go_wp2_with (go_at_call 38; (with_reducible refine (HL.out _ (Lib.hid ?_) _ _ ?_).mono ?_); (exact (Below.alloc hb.out hb.out.size _)); omega; rintro e w3 ⟨rfl, hw3⟩)
              go_ret
              exact ⟨retb HF.out.symm, (HQ.out _ ((below1 _ _).trans (hw3.mono (by simp)))).1⟩
        · have e2 : ((x.op : Int) == 50) = false := by simp [h50]
          by_cases hmm : (m : Int) = 0
          · by_cases hcut : caf = k + 1
            · simp only [if_pos hcut] at HL
              subst hcut
              have e5 : ((m : Int) != 0) = false := by simp; omega
              have HT : Hid (tailsOk (f.code.drop k) = tailsOk (f.code.drop (k + 1))) := Lib.hid (by rw [HS.out]; simp [h51, h50]; intro _; omega)
              clear h51 h50
              go_wp2_with (go_at_call 38; (with_reducible refine (HL.out _ (Lib.hid ?_) _ _ ?_).mono ?_); (exact (Below.alloc hb.out hb.out.size _)); omega; rintro e w3 ⟨rfl, hw3⟩)
              go_roundw
              case rel => exact ⟨k + 1, by omega, by go_num, Lib.hid (by rw [hok.out, HT.out]), Lib.hid (HQ.out _ ((below1 _ _).trans (hw3.mono (by simp)))).1, (HQ.out _ ((below1 _ _).trans (hw3.mono (by simp)))).2.1, (HQ.out _ ((below1 _ _).trans (hw3.mono (by simp)))).2.2⟩
              case measure => simp [intOf]; omega
            · simp only [if_neg hcut] at HL
              have e5 : ((m : Int) != 0) = false := by simp; omega
              have HT : Hid (tailsOk (f.code.drop k) = tailsOk (f.code.drop (k + 1))) := Lib.hid (by rw [HS.out]; simp [h51, h50]; intro _; omega)
              clear h51 h50
              go_wp2_with (go_at_call 38; (with_reducible refine (HL.out _ (Lib.hid ?_) _ _ ?_).mono ?_); (exact (Below.alloc hb.out hb.out.size _)); omega; rintro e w3 ⟨rfl, hw3⟩)
              go_roundw
              case rel => exact ⟨k + 1, by omega, by go_num, Lib.hid (by rw [hok.out, HT.out]), Lib.hid (HQ.out _ ((below1 _ _).trans (hw3.mono (by simp)))).1, (HQ.out _ ((below1 _ _).trans (hw3.mono (by simp)))).2.1, (HQ.out _ ((below1 _ _).trans (hw3.mono (by simp)))).2.2⟩
              case measure => simp [intOf]; omega
          · by_cases hcut : caf = k + 1
            · simp only [if_pos hcut] at HL
              subst hcut
              have e5 : ((m : Int) != 0) = true := by simp; omega
              have HF : Hid (casesP f = false) := Lib.hid (by unfold casesP; rw [hok.out, HS.out]; simp [h51, h50]; intro h; omega)
              clear h51 h50
              go_wp2_with (go_at_call 38; (with_reducible refine (HL.out _ (Lib.hid ?_) _ _ ?_).mono ?_); (exact (Below.alloc hb.out hb.out.size _)); omega; rintro e w3 ⟨rfl, hw3⟩)
              go_ret
              exact ⟨retb HF.out.symm, (HQ.out _ ((below1 _ _).trans (hw3.mono (by simp)))).1⟩
            · simp only [if_neg hcut] at HL
              have e5 : ((m : Int) != 0) = true := by simp; omega
              have HF : Hid (casesP f = false) := Lib.hid (by unfold casesP; rw [hok.out, HS.out]; simp [h51, h50]; intro h; omega)
              clear h51 h50
              go_wp2_with (go_at_call 38; (with_reducible refine (HL.out _ (Lib.hid ?_) _ _ ?_).mono ?_); (exact (Below.alloc hb.out hb.out.size _)); omega; rintro e w3 ⟨rfl, hw3⟩)
              go_ret
              exact ⟨retb HF.out.symm, (HQ.out _ ((below1 _ _).trans (hw3.mono (by simp)))).1⟩
    · obtain rfl : k = f.code.length := by omega
      have hx := (HR.out 0 h0).below hb.out
      obtain ⟨x, hxe⟩ : ∃ x, f.code[0] = x := ⟨_, rfl⟩
      rw [hxe] at hx
      have q0 := hx.c0
      rw [Nat.zero_mul, Nat.add_zero] at q0
      have HF : Hid (casesP f = (x.op != 51)) := Lib.hid (by
        unfold casesP; rw [hok.out]
        have : f.code.getD 0 default = x := by rw [List.getD_eq_getElem?_getD, List.getElem?_eq_getElem h0, hxe]; rfl
        rw [this]; simp [tailsOk]; rw [Bool.eq_iff_iff]; simp)
      have j0 : (0 : Int) < (f.code.length : Int) := by omega
      clear hx hxe
      go_wp2
      go_ret
      exact ⟨retb HF.out.symm, hb.out⟩
end Go.Proofs.YtekfhgldebhigaaDoor
