/-
  The walk of the program's Text.
-/
import Derived.Test.YtijhdlmnoinfiaaGreatDoorFF
set_option linter.all false
namespace Go.Proofs.YtijhdlmnoinfiaaGreatDoor
open Go.RowKit T T.Fo Ty

/-- The table of texts. -/
def txArr : List (List UInt8) := [[], [105, 110, 116], [98, 111, 111, 108], [110, 105, 108], [], [91, 93, 105, 110, 116], [99, 104, 97, 110, 32, 105, 110, 116], [102, 117, 110, 99, 40, 41], [109, 117, 116, 101, 120], [114, 119, 109, 117, 116, 101, 120], [103, 114, 111, 117, 112], [111, 110, 99, 101], [97, 116, 111, 109, 105, 99]]
/-- The package-level variables of both packages. -/
def Glot (w : World) : Prop := Glob w ∧ ∀ i, i < 13 → w.cell? ⟨0, i, none⟩ = some (.string ⟨(txArr.getD i []).toArray⟩)
theorem Glot.below {w w' : World} (h : Glot w) (hb : Below w.heap.size w w') : Glot w' :=
  ⟨glob_below h.1 hb, fun i hi => (hb.cell (p := ⟨0, i, none⟩) (by have := h.1.2.2; show 0 < _; omega)).trans (h.2 i hi)⟩
theorem txt_at (n : Nat) (s : ByteArray) (hn : n ≤ 12) (h4 : n ≠ 4) (hv : vB (n : Int) s = true) : txt (n : Int) s = txArr.getD n [] := by
  unfold txt
  rw [hv]
  match n, hn, h4 with
  | 0, _, _ => rfl
  | 1, _, _ => rfl
  | 2, _, _ => rfl
  | 3, _, _ => rfl
  | 5, _, _ => rfl
  | 6, _, _ => rfl
  | 7, _, _ => rfl
  | 8, _, _ => rfl
  | 9, _, _ => rfl
  | 10, _, _ => rfl
  | 11, _, _ => rfl
  | 12, _, _ => rfl
theorem vB_num {k : Int} {s : ByteArray} (h : vB k s = true) (h4 : ¬ k = 4) : ∃ n : Nat, k = (n : Int) ∧ n ≤ 12 ∧ n ≠ 4 := by
  unfold vB at h
  rw [if_neg h4] at h
  simp at h
  exact ⟨k.toNat, by omega, by omega, by omega⟩
set_option maxRecDepth 100000 in
set_option maxHeartbeats 4000000 in
theorem ytext_any (k : Int) (s : ByteArray) (w : World) (hm : s.size ≤ maxLen) (hG : Glot w) : Calls Tryz.prog 16 #[tyv k s] w fun e w' => e = .returned (.string (txtB k s)) ∧ Below w.heap.size w w' := by
  obtain ⟨v, hv⟩ : ∃ v, vB k s = v := ⟨_, rfl⟩
  have H : Hid (∀ o, Calls Tryz.prog 40 #[tyv k s] (w.alloc o) fun e w' => e = .returned (.bool v) ∧ Below (w.alloc o).heap.size (w.alloc o) w') := Lib.hid fun o => hv ▸ yvalid_any k s _ hm (glob_below hG.1 (b1 w o))
  cases v with
  | false =>
    have HV := Lib.hid hv
    clear hv hm hG
    go_enter Tryz.func16, Tryz.ntmps16
    go_wp2_with (go_at_call 40; refine (H.out _).mono ?_; rintro e w' ⟨rfl, hb⟩; have HB := Lib.hid (b1t hb); clear hb)
    go_ret
    exact ⟨ret_str (by unfold txtB txt; rw [HV.out]; rfl), HB.out⟩
  | true =>
    by_cases h4 : k = 4
    · subst h4
      have h32 : s.size ≤ 32 := nam_len ((v4 s).symm.trans hv)
      have hsz1 : ¬ 9223372036854775807 < 1 + s.size := by omega
      have HV := Lib.hid hv
      clear hv hm hG h32
      go_enter Tryz.func16, Tryz.ntmps16
      go_wp2_with (go_at_call 40; refine (H.out _).mono ?_; rintro e w' ⟨rfl, hb⟩; have HB := Lib.hid (b1t hb); obtain ⟨hc, hf⟩ := bcell hb; have hz := hb.size; clear hb)
      go_ret
      exact ⟨ret_str (by unfold txtB txt; rw [HV.out, cat42]; rfl), HB.out⟩
    · obtain ⟨n, rfl, hn, hn4⟩ := vB_num hv h4
      have HT : Hid (txtB (n : Int) s = ⟨(txArr.getD n []).toArray⟩) := Lib.hid (by unfold txtB; rw [txt_at n s hn hn4 hv])
      have hk4 : ((n : Int) == 4) = false := by simpa using h4
      have hn13 : (n : Int) < 13 := by omega
      have hn13' : n < 13 := by omega
      have hz0 : 4 < w.heap.size := hG.1.2.2
      have HX := Lib.hid (hG.2 n hn13')
      clear hv hm hG h4
      go_enter Tryz.func16, Tryz.ntmps16
      go_wp2_with (go_at_call 40; refine (H.out _).mono ?_; rintro e w' ⟨rfl, hb⟩; have HB := Lib.hid (b1t hb); have hx := (HB.out.cell (p := ⟨0, n, none⟩) (by show 0 < _; omega)).trans HX.out; obtain ⟨hc, hf⟩ := bcell hb; have hz := hb.size; clear hb)
      go_ret
      exact ⟨ret_str HT.out.symm, HB.out⟩
end Go.Proofs.YtijhdlmnoinfiaaGreatDoor
