/-
  Plain mathematics: the starts of the lines of a text are a valid table, and tell where its line feeds are.
-/
import Derived.Test.YtlnobjdlcnpjeaaW13
namespace Go.Proofs.Ytlnobjdlcnpjeaa
open M

theorem at0_left {zs : List Int} {x : Int} {i : Nat} (h : i < zs.length) : at0 (zs ++ [x]) i = at0 zs i := by
  simp [at0, List.getD, List.getElem?_append_left h]
theorem at0_right {zs : List Int} {x : Int} : at0 (zs ++ [x]) zs.length = x := by
  simp [at0, List.getD]

theorem M.Ok.grow {zs : List Int} {size size' : Int} (h : Ok zs size) (h1 : size ≤ size') (h2 : size' ≤ 1099511627776) : Ok zs size' := by
  obtain ⟨a, b, c, d, e⟩ := h
  exact ⟨a, b, c, by omega, h2⟩
theorem M.Ok.snoc {zs : List Int} {size x : Int} (h : Ok zs size) (h1 : size < x) (h2 : x ≤ 1099511627776) : Ok (zs ++ [x]) x := by
  obtain ⟨a, b, c, d, e⟩ := h
  have hl : (zs ++ [x]).length = zs.length + 1 := by simp
  refine ⟨by omega, by rw [at0_left a]; exact b, fun i hi => ?_, ?_, h2⟩
  · by_cases g : i + 1 < zs.length
    · rw [at0_left g, at0_left (by omega)]; exact c i g
    · have e1 : i + 1 = zs.length := by omega
      rw [e1, at0_right, at0_left (by omega)]
      have : i = zs.length - 1 := by omega
      rw [this]; omega
  · rw [hl, Nat.add_sub_cancel, at0_right]; exact Int.le_refl _

theorem st_ok (s : ByteArray) (k : Nat) (hk : (k : Int) ≤ 1099511627776) : Ok (st s k) k := by
  induction k with
  | zero => exact ⟨by simp [st], rfl, fun i hi => by simp [st] at hi, by simp [st, at0], by omega⟩
  | succ k ih =>
    have h := ih (by omega)
    rw [st]
    split
    · have := h.snoc (x := (k : Int) + 1) (by omega) (by omega)
      simpa using this
    · have := h.grow (size' := (k : Int) + 1) (by omega) (by omega)
      simpa using this

/-- A line starts behind byte i exactly if that is a line feed. -/
theorem st_feed (s : ByteArray) (k : Nat) : ∀ i, i < k → (byteAt s i = 10 ↔ ∃ m, 1 ≤ m ∧ m < (st s k).length ∧ at0 (st s k) m = (i : Int) + 1) := by
  induction k with
  | zero => intro i hi; omega
  | succ k ih =>
    intro i hi
    have hl := st_len s k
    rw [st]
    split
    · rename_i h10
      have hlen : (st s k ++ [(k : Int) + 1]).length = (st s k).length + 1 := by simp
      by_cases e : i = k
      · subst e
        refine ⟨fun _ => ⟨(st s i).length, by omega, by omega, at0_right⟩, fun _ => h10⟩
      · rw [ih i (by omega)]
        refine ⟨fun ⟨m, h1, h2, h3⟩ => ⟨m, h1, by omega, by rw [at0_left h2]; exact h3⟩, fun ⟨m, h1, h2, h3⟩ => ?_⟩
        by_cases g : m < (st s k).length
        · exact ⟨m, h1, g, by rw [at0_left g] at h3; exact h3⟩
        · have : m = (st s k).length := by omega
          subst this
          rw [at0_right] at h3
          omega
    · rename_i h10
      by_cases e : i = k
      · subst e
        refine ⟨fun g => absurd g h10, fun ⟨m, h1, h2, h3⟩ => ?_⟩
        have bound : ∀ j, ∀ m, m < (st s j).length → at0 (st s j) m ≤ (j : Int) := by
          intro j
          induction j with
          | zero =>
            intro m hm
            simp [st] at hm
            subst hm
            simp [st, at0]
          | succ j ihj =>
            intro m hm
            rw [st] at hm ⊢
            split at hm
            · rename_i q
              rw [if_pos q]
              have hlj : (st s j ++ [(j : Int) + 1]).length = (st s j).length + 1 := by simp
              by_cases g : m < (st s j).length
              · rw [at0_left g]; have := ihj m g; omega
              · have : m = (st s j).length := by omega
                subst this
                rw [at0_right]; omega
            · rename_i q
              rw [if_neg q]
              have := ihj m hm
              omega
        have := bound i m h2
        omega
      · exact ih i (by omega)

/-- Where line j + 1 ends. -/
def endOf (s : ByteArray) (j : Nat) : Nat := if j + 1 < (st s s.size).length then (at0 (st s s.size) (j + 1)).toNat else s.size
def startOf (s : ByteArray) (j : Nat) : Nat := (at0 (st s s.size) j).toNat

theorem line_bytes (s : ByteArray) (hs : s.size ≤ 100000) (j i : Nat) (hj : j < (st s s.size).length) (h1 : startOf s j ≤ i) (h2 : i < endOf s j) : i < s.size ∧ (byteAt s i = 10 ↔ j + 1 < (st s s.size).length ∧ i + 1 = endOf s j) := by
  have ok := st_ok s s.size (by omega)
  have hsz := ok.size
  unfold startOf at h1
  unfold endOf at h2 ⊢
  have b0 := ok.bd hj
  by_cases g : j + 1 < (st s s.size).length
  · rw [if_pos g] at h2 ⊢
    have b1 := ok.bd g
    have his : i < s.size := by omega
    refine ⟨his, ?_⟩
    rw [st_feed s s.size i his]
    refine ⟨fun ⟨m, m1, m2, m3⟩ => ⟨g, ?_⟩, fun ⟨_, e⟩ => ⟨j + 1, by omega, g, by omega⟩⟩
    rcases Nat.lt_trichotomy m (j + 1) with q | q | q
    · have := ok.le (i := m) (j := j) (by omega) hj; omega
    · subst q; omega
    · have := ok.lt q m2; omega
  · rw [if_neg g] at h2 ⊢
    refine ⟨h2, ?_⟩
    rw [st_feed s s.size i h2]
    refine ⟨fun ⟨m, m1, m2, m3⟩ => ?_, fun ⟨e, _⟩ => absurd e g⟩
    have := ok.le (i := m) (j := j) (by omega) hj
    omega

end Go.Proofs.Ytlnobjdlcnpjeaa
