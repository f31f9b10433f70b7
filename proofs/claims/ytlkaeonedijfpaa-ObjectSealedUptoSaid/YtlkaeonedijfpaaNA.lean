/-
  Plain mathematics of the binary form (chapter 10). No program text is reached here.
-/
import Derived.Test.YtlkaeonedijfpaaMD
set_option linter.all false
namespace Go.Proofs.Ytlkaeonedijfpaa.C
open Go Go.RowKit
def I64 (v : Int) : Prop := -9223372036854775808 ≤ v ∧ v ≤ 9223372036854775807
def zig (n : Int) : Nat := if n < 0 then (-2 * n - 1).toNat else (2 * n).toNat
def unzig (u : Nat) : Int := if u % 2 = 1 then -((u / 2 : Nat) : Int) - 1 else ((u / 2 : Nat) : Int)
theorem unzig_zig (n : Int) : unzig (zig n) = n := by
  unfold unzig zig
  split <;> split <;> omega
theorem zig_unzig (u : Nat) : zig (unzig u) = u := by
  unfold unzig zig
  split <;> split <;> omega
theorem zig_lt {n : Int} (h : I64 n) : zig n < 18446744073709551616 := by
  unfold zig; unfold I64 at h; split <;> omega
theorem unzig_i64 {u : Nat} (h : u < 18446744073709551616) : I64 (unzig u) := by
  unfold unzig I64; split <;> omega
/-! ### groups -/
def groups (u : Nat) : Bs := if h : u < 128 then [UInt8.ofNat u] else UInt8.ofNat (u % 128 + 128) :: groups (u / 128)
termination_by u
decreasing_by omega
theorem groups_lt {u : Nat} (h : u < 128) : groups u = [UInt8.ofNat u] := by rw [groups, dif_pos h]
theorem groups_ge {u : Nat} (h : 128 ≤ u) : groups u = UInt8.ofNat (u % 128 + 128) :: groups (u / 128) := by rw [groups, dif_neg (by omega)]
theorem groups_pos (u : Nat) : 0 < (groups u).length := by
  rw [groups]; split <;> simp
theorem groups_len_le : ∀ (k u : Nat), u < 128 ^ (k + 1) → (groups u).length ≤ k + 1 := by
  intro k
  induction k with
  | zero => intro u h; rw [groups_lt (by omega)]; simp
  | succ k ih =>
    intro u h
    by_cases hu : u < 128
    · rw [groups_lt hu]; simp
    · rw [groups_ge (by omega), List.length_cons]
      have := ih (u / 128) (Nat.div_lt_of_lt_mul (by rw [Nat.pow_succ] at h; omega))
      omega
theorem groups_len {u : Nat} (h : u < 18446744073709551616) : (groups u).length ≤ 10 := groups_len_le 9 u (by omega)
def gD : Nat → Bs → Option (Nat × Bs)
  | _, [] => none
  | i, c :: l => if (0 < i ∧ c.toNat = 0) ∨ (9 ≤ i ∧ 1 < c.toNat) then none else if c.toNat < 128 then some (c.toNat, l) else
    match gD (i + 1) l with
    | none => none
    | some (u, r) => some (c.toNat - 128 + 128 * u, r)
def bd (i : Nat) : Nat := 2 ^ (64 - 7 * i)
theorem bd_succ {i : Nat} (h : i ≤ 8) : bd i = 128 * bd (i + 1) := by
  unfold bd
  rw [show 64 - 7 * i = 7 + (64 - 7 * (i + 1)) by omega, Nat.pow_add]
theorem bd_9 : bd 9 = 2 := rfl
theorem bd_0 : bd 0 = 18446744073709551616 := rfl
theorem bd_pos (i : Nat) : 0 < bd i := Nat.two_pow_pos _
theorem u8_nat {n : Nat} (h : n < 256) : (UInt8.ofNat n).toNat = n := by simp; omega
theorem u8_of (c : UInt8) : UInt8.ofNat c.toNat = c := by simp
theorem gD_groups : ∀ (k u i : Nat) (rest : Bs), u ≤ k → u < bd i → (i = 0 ∨ 0 < u) → i ≤ 9 → gD i (groups u ++ rest) = some (u, rest) := by
  intro k
  induction k with
  | zero =>
    intro u i rest hk hb h0 hi
    obtain rfl : u = 0 := by omega
    obtain rfl : i = 0 := by omega
    rw [groups_lt (by omega)]
    simp [gD]
  | succ k ih =>
    intro u i rest hk hb h0 hi
    have h9 : i = 9 → u < 2 := fun e => by subst e; rw [bd_9] at hb; exact hb
    by_cases h : u < 128
    · rw [groups_lt h]
      simp only [List.cons_append, List.nil_append, gD]
      rw [u8_nat (by omega), if_neg (by omega), if_pos h]
    · rw [groups_ge (by omega)]
      have hi8 : i ≤ 8 := by omega
      have hbs := bd_succ hi8
      simp only [List.cons_append, gD]
      rw [u8_nat (by omega), if_neg (by omega), if_neg (by omega), ih (u / 128) (i + 1) rest (by omega) (by omega) (by omega) (by omega)]
      simp only [Option.some.injEq, Prod.mk.injEq, and_true]
      omega
theorem gD_inv : ∀ (l : Bs) (i u : Nat) (r : Bs), i ≤ 9 → gD i l = some (u, r) → l = groups u ++ r ∧ (0 < i → 0 < u) ∧ u < bd i := by
  intro l
  induction l with
  | nil => intro i u r _ h; simp [gD] at h
  | cons c l ih =>
    intro i u r hi h
    have hc : c.toNat < 256 := c.toNat_lt
    simp only [gD] at h
    by_cases h1 : (0 < i ∧ c.toNat = 0) ∨ (9 ≤ i ∧ 1 < c.toNat)
    · rw [if_pos h1] at h; cases h
    · rw [if_neg h1] at h
      by_cases h2 : c.toNat < 128
      · rw [if_pos h2] at h
        simp only [Option.some.injEq, Prod.mk.injEq] at h
        obtain ⟨rfl, rfl⟩ := h
        refine ⟨by rw [groups_lt h2, u8_of]; rfl, by omega, ?_⟩
        by_cases e : i = 9
        · subst e; rw [bd_9]; omega
        · have h8 := bd_succ (i := i) (by omega)
          have := bd_pos (i + 1)
          omega
      · rw [if_neg h2] at h
        cases hg : gD (i + 1) l with
        | none => rw [hg] at h; cases h
        | some q =>
          obtain ⟨u', r'⟩ := q
          rw [hg] at h
          simp only [Option.some.injEq, Prod.mk.injEq] at h
          obtain ⟨rfl, rfl⟩ := h
          have hi8 : i ≤ 8 := by omega
          obtain ⟨e, hp, hb⟩ := ih (i + 1) u' r' (by omega) hg
          have hp := hp (by omega)
          have hbs := bd_succ hi8
          refine ⟨?_, by omega, by omega⟩
          rw [groups_ge (by omega), e, show (c.toNat - 128 + 128 * u') % 128 + 128 = c.toNat by omega, show (c.toNat - 128 + 128 * u') / 128 = u' by omega, u8_of]
          rfl
theorem gD_len {l : Bs} {i u : Nat} {r : Bs} (hi : i ≤ 9) (h : gD i l = some (u, r)) : r.length < l.length := by
  obtain ⟨e, _⟩ := gD_inv l i u r hi h
  have := groups_pos u
  rw [e, List.length_append]; omega
/-! ### codecs -/
/-- What is written reads back, and what is read was written. -/
structure Codec {α : Type} (e : α → Bs) (d : Bs → Option (α × Bs)) (P : α → Prop) : Prop where
  to : ∀ x r, P x → d (e x ++ r) = some (x, r)
  of : ∀ l x r, d l = some (x, r) → l = e x ++ r ∧ P x
def numE (n : Int) : Bs := groups (zig n)
def numD (l : Bs) : Option (Int × Bs) := match gD 0 l with | none => none | some (u, r) => some (unzig u, r)
theorem num_codec : Codec numE numD I64 := by
  constructor
  · intro n r h
    unfold numE numD
    rw [gD_groups (zig n) (zig n) 0 r (Nat.le_refl _) (by rw [bd_0]; exact zig_lt h) (.inl rfl) (by omega)]
    simp [unzig_zig]
  · intro l n r h
    unfold numD at h
    cases hg : gD 0 l with
    | none => rw [hg] at h; cases h
    | some q =>
      obtain ⟨u, r'⟩ := q
      rw [hg] at h
      simp only [Option.some.injEq, Prod.mk.injEq] at h
      obtain ⟨rfl, rfl⟩ := h
      obtain ⟨e, _, hb⟩ := gD_inv l 0 u r' (by omega) hg
      exact ⟨by unfold numE; rw [zig_unzig]; exact e, unzig_i64 hb⟩
theorem numE_pos (n : Int) : 0 < (numE n).length := groups_pos _
def countD (l : Bs) : Option (Nat × Bs) := match numD l with | none => none | some (n, r) => if n < 0 ∨ (r.length : Int) < n then none else some (n.toNat, r)
theorem countD_to {n : Nat} {r : Bs} (h : I64 n) (hn : n ≤ r.length) : countD (numE n ++ r) = some (n, r) := by
  unfold countD
  rw [num_codec.to _ r h]
  simp only
  rw [if_neg (by omega)]; simp
theorem countD_of {l : Bs} {n : Nat} {r : Bs} (h : countD l = some (n, r)) : l = numE n ++ r ∧ I64 n ∧ n ≤ r.length := by
  unfold countD at h
  cases hg : numD l with
  | none => rw [hg] at h; cases h
  | some q =>
    obtain ⟨m, r'⟩ := q
    rw [hg] at h
    simp only at h
    split at h
    · cases h
    · simp only [Option.some.injEq, Prod.mk.injEq] at h
      obtain ⟨rfl, rfl⟩ := h
      obtain ⟨e, hp⟩ := num_codec.of _ _ _ hg
      rw [show ((m.toNat : Nat) : Int) = m by omega]
      exact ⟨e, hp, by omega⟩
def textE (s : ByteArray) : Bs := numE s.size ++ s.data.toList
def textD (l : Bs) : Option (ByteArray × Bs) := match countD l with | none => none | some (n, r) => some (⟨(r.take n).toArray⟩, r.drop n)
theorem text_codec : Codec textE textD (fun s => I64 s.size) := by
  constructor
  · intro s r h
    unfold textE textD
    rw [List.append_assoc, countD_to h (by rw [List.length_append, Array.length_toList]; exact Nat.le_add_right _ _)]
    have hl : s.data.toList.length = s.size := Array.length_toList
    simp only
    rw [List.drop_left' hl, List.take_left' hl]
  · intro l s r h
    unfold textD at h
    cases hg : countD l with
    | none => rw [hg] at h; cases h
    | some q =>
      obtain ⟨n, r'⟩ := q
      rw [hg] at h
      simp only [Option.some.injEq, Prod.mk.injEq] at h
      obtain ⟨rfl, rfl⟩ := h
      obtain ⟨e, hp, hn⟩ := countD_of hg
      have hs : (⟨(r'.take n).toArray⟩ : ByteArray).size = n := by show (List.take n r').toArray.size = n; simp; omega
      refine ⟨?_, by rw [hs]; exact hp⟩
      unfold textE
      rw [hs, List.append_assoc]
      simp only [List.take_append_drop]
      exact e
def repD {α : Type} (d : Bs → Option (α × Bs)) : Nat → Bs → Option (List α × Bs)
  | 0, l => some ([], l)
  | n + 1, l => match d l with
    | none => none
    | some (x, r) => match repD d n r with
      | none => none
      | some (xs, r') => some (x :: xs, r')
def listE {α : Type} (e : α → Bs) (l : List α) : Bs := numE l.length ++ l.flatMap e
def listD {α : Type} (d : Bs → Option (α × Bs)) (l : Bs) : Option (List α × Bs) := match countD l with | none => none | some (n, r) => repD d n r
theorem repD_to {α : Type} {e : α → Bs} {d : Bs → Option (α × Bs)} {P : α → Prop} (C : Codec e d P) (l : List α) (h : ∀ x ∈ l, P x) (r : Bs) : repD d l.length (l.flatMap e ++ r) = some (l, r) := by
  induction l with
  | nil => rfl
  | cons x l ih =>
    rw [List.flatMap_cons, List.append_assoc, List.length_cons]
    unfold repD
    rw [C.to x _ (h x List.mem_cons_self)]
    simp only
    rw [ih fun y hy => h y (List.mem_cons_of_mem _ hy)]
theorem repD_of {α : Type} {e : α → Bs} {d : Bs → Option (α × Bs)} {P : α → Prop} (C : Codec e d P) : ∀ (n : Nat) (l : Bs) (xs : List α) (r : Bs), repD d n l = some (xs, r) → l = xs.flatMap e ++ r ∧ xs.length = n ∧ ∀ x ∈ xs, P x := by
  intro n
  induction n with
  | zero =>
    intro l xs r h
    simp only [repD, Option.some.injEq, Prod.mk.injEq] at h
    obtain ⟨rfl, rfl⟩ := h
    exact ⟨rfl, rfl, fun x hx => by cases hx⟩
  | succ n ih =>
    intro l xs r h
    unfold repD at h
    cases hg : d l with
    | none => rw [hg] at h; cases h
    | some q =>
      obtain ⟨x, r1⟩ := q
      rw [hg] at h
      simp only at h
      cases hq : repD d n r1 with
      | none => rw [hq] at h; cases h
      | some q =>
        obtain ⟨ys, r2⟩ := q
        rw [hq] at h
        simp only [Option.some.injEq, Prod.mk.injEq] at h
        obtain ⟨rfl, rfl⟩ := h
        obtain ⟨e1, e2, e3⟩ := ih _ _ _ hq
        obtain ⟨e4, e5⟩ := C.of _ _ _ hg
        refine ⟨by rw [List.flatMap_cons, List.append_assoc, ← e1, e4], by rw [List.length_cons, e2], fun y hy => ?_⟩
        rcases List.mem_cons.1 hy with rfl | hy
        · exact e5
        · exact e3 y hy
theorem flat_ge {α : Type} {e : α → Bs} (he : ∀ x, 0 < (e x).length) (l : List α) : l.length ≤ (l.flatMap e).length := by
  induction l with
  | nil => simp
  | cons x l ih => rw [List.flatMap_cons, List.length_append, List.length_cons]; have := he x; omega
theorem list_codec {α : Type} {e : α → Bs} {d : Bs → Option (α × Bs)} {P : α → Prop} (C : Codec e d P) (he : ∀ x, 0 < (e x).length) : Codec (listE e) (listD d) (fun l => I64 l.length ∧ ∀ x ∈ l, P x) := by
  constructor
  · intro l r h
    unfold listE listD
    rw [List.append_assoc, countD_to h.1 (by rw [List.length_append]; have := flat_ge he l; omega)]
    simp only
    exact repD_to C l h.2 r
  · intro l xs r h
    unfold listD at h
    cases hg : countD l with
    | none => rw [hg] at h; cases h
    | some q =>
      obtain ⟨n, r'⟩ := q
      rw [hg] at h
      simp only at h
      obtain ⟨e1, e2, e3⟩ := repD_of C _ _ _ _ h
      obtain ⟨e4, e5, e6⟩ := countD_of hg
      subst e2
      exact ⟨by unfold listE; rw [List.append_assoc, ← e1, e4], e5, e3⟩
/-! ### programs -/
def glE (g : Gl) : Bs := textE g.name ++ numE g.kind
def glD (l : Bs) : Option (Gl × Bs) := match textD l with | none => none | some (s, r) => match numD r with | none => none | some (k, r) => some (⟨s, k⟩, r)
theorem gl_codec : Codec glE glD (fun g => I64 g.name.size ∧ I64 g.kind) := by
  constructor
  · intro g r h
    unfold glE glD
    rw [List.append_assoc, text_codec.to _ _ h.1]
    simp only
    rw [num_codec.to _ _ h.2]
  · intro l g r h
    unfold glD at h
    cases h1 : textD l with
    | none => rw [h1] at h; cases h
    | some q =>
      obtain ⟨s, r1⟩ := q
      rw [h1] at h
      simp only at h
      cases h2 : numD r1 with
      | none => rw [h2] at h; cases h
      | some q =>
        obtain ⟨k, r2⟩ := q
        rw [h2] at h
        simp only [Option.some.injEq, Prod.mk.injEq] at h
        obtain ⟨rfl, rfl⟩ := h
        obtain ⟨e1, p1⟩ := text_codec.of _ _ _ h1
        obtain ⟨e2, p2⟩ := num_codec.of _ _ _ h2
        exact ⟨by unfold glE; rw [List.append_assoc, ← e2, e1], p1, p2⟩
theorem glE_pos (g : Gl) : 0 < (glE g).length := by unfold glE textE; simp only [List.length_append]; have := numE_pos g.kind; omega
def inE (at0 : Int) (x : In) : Bs := numE x.op ++ (numE x.a ++ (numE x.b ++ (numE x.c ++ numE (wrap64 (x.at' - at0)))))
def inD (at0 : Int) (l : Bs) : Option (In × Bs) :=
  match numD l with
  | none => none
  | some (op, r) => match numD r with
    | none => none
    | some (a, r) => match numD r with
      | none => none
      | some (b, r) => match numD r with
        | none => none
        | some (c, r) => match numD r with
          | none => none
          | some (t, r) => some (⟨op, a, b, c, wrap64 (at0 + t)⟩, r)
def I5 (x : In) : Prop := I64 x.op ∧ I64 x.a ∧ I64 x.b ∧ I64 x.c ∧ I64 x.at'
theorem wrap_back {a b : Int} (hb : I64 b) : wrap64 (a + wrap64 (b - a)) = b := by unfold wrap64; unfold I64 at hb; omega
theorem wrap_back2 {a t : Int} (ht : I64 t) : wrap64 (wrap64 (a + t) - a) = t := by unfold wrap64; unfold I64 at ht; omega
theorem i64_wrap (a : Int) : I64 (wrap64 a) := by unfold wrap64 I64; omega
theorem in_codec (at0 : Int) : Codec (inE at0) (inD at0) I5 := by
  constructor
  · intro x r ⟨h1, h2, h3, h4, h5⟩
    unfold inE inD
    simp only [List.append_assoc]
    rw [num_codec.to _ _ h1]; simp only
    rw [num_codec.to _ _ h2]; simp only
    rw [num_codec.to _ _ h3]; simp only
    rw [num_codec.to _ _ h4]; simp only
    rw [num_codec.to _ _ (i64_wrap _)]; simp only
    rw [wrap_back h5]
  · intro l x r h
    unfold inD at h
    cases h1 : numD l with
    | none => rw [h1] at h; cases h
    | some q =>
    obtain ⟨op, r1⟩ := q
    rw [h1] at h; simp only at h
    cases h2 : numD r1 with
    | none => rw [h2] at h; cases h
    | some q =>
    obtain ⟨a, r2⟩ := q
    rw [h2] at h; simp only at h
    cases h3 : numD r2 with
    | none => rw [h3] at h; cases h
    | some q =>
    obtain ⟨b, r3⟩ := q
    rw [h3] at h; simp only at h
    cases h4 : numD r3 with
    | none => rw [h4] at h; cases h
    | some q =>
    obtain ⟨c, r4⟩ := q
    rw [h4] at h; simp only at h
    cases h5 : numD r4 with
    | none => rw [h5] at h; cases h
    | some q =>
    obtain ⟨t, r5⟩ := q
    rw [h5] at h
    simp only [Option.some.injEq, Prod.mk.injEq] at h
    obtain ⟨rfl, rfl⟩ := h
    obtain ⟨e1, p1⟩ := num_codec.of _ _ _ h1
    obtain ⟨e2, p2⟩ := num_codec.of _ _ _ h2
    obtain ⟨e3, p3⟩ := num_codec.of _ _ _ h3
    obtain ⟨e4, p4⟩ := num_codec.of _ _ _ h4
    obtain ⟨e5, p5⟩ := num_codec.of _ _ _ h5
    refine ⟨?_, p1, p2, p3, p4, i64_wrap _⟩
    unfold inE
    simp only [List.append_assoc]
    rw [wrap_back2 p5, ← e5, ← e4, ← e3, ← e2, e1]
def codeE : Int → List In → Bs
  | _, [] => []
  | at0, x :: l => inE at0 x ++ codeE x.at' l
def codeD : Nat → Int → Bs → Option (List In × Bs)
  | 0, _, l => some ([], l)
  | n + 1, at0, l => match inD at0 l with
    | none => none
    | some (x, r) => match codeD n x.at' r with
      | none => none
      | some (xs, r') => some (x :: xs, r')
theorem codeD_to (l : List In) (h : ∀ x ∈ l, I5 x) : ∀ (at0 : Int) (r : Bs), codeD l.length at0 (codeE at0 l ++ r) = some (l, r) := by
  induction l with
  | nil => intro _ _; rfl
  | cons x l ih =>
    intro at0 r
    rw [List.length_cons]
    unfold codeE codeD
    rw [List.append_assoc, (in_codec at0).to x _ (h x List.mem_cons_self)]
    simp only
    rw [ih fun y hy => h y (List.mem_cons_of_mem _ hy)]
theorem codeD_of : ∀ (n : Nat) (at0 : Int) (l : Bs) (xs : List In) (r : Bs), codeD n at0 l = some (xs, r) → l = codeE at0 xs ++ r ∧ xs.length = n ∧ ∀ x ∈ xs, I5 x := by
  intro n
  induction n with
  | zero =>
    intro at0 l xs r h
    simp only [codeD, Option.some.injEq, Prod.mk.injEq] at h
    obtain ⟨rfl, rfl⟩ := h
    exact ⟨rfl, rfl, fun x hx => by cases hx⟩
  | succ n ih =>
    intro at0 l xs r h
    unfold codeD at h
    cases hg : inD at0 l with
    | none => rw [hg] at h; cases h
    | some q =>
      obtain ⟨x, r1⟩ := q
      rw [hg] at h
      simp only at h
      cases hq : codeD n x.at' r1 with
      | none => rw [hq] at h; cases h
      | some q =>
        obtain ⟨ys, r2⟩ := q
        rw [hq] at h
        simp only [Option.some.injEq, Prod.mk.injEq] at h
        obtain ⟨rfl, rfl⟩ := h
        obtain ⟨e1, e2, e3⟩ := ih _ _ _ _ hq
        obtain ⟨e4, e5⟩ := (in_codec at0).of _ _ _ hg
        refine ⟨by unfold codeE; rw [List.append_assoc, ← e1, e4], by rw [List.length_cons, e2], fun y hy => ?_⟩
        rcases List.mem_cons.1 hy with rfl | hy
        · exact e5
        · exact e3 y hy
theorem inE_pos (at0 : Int) (x : In) : 0 < (inE at0 x).length := by unfold inE; rw [List.length_append]; have := numE_pos x.op; omega
theorem code_ge (l : List In) : ∀ at0, l.length ≤ (codeE at0 l).length := by
  induction l with
  | nil => intro _; exact Nat.le_refl _
  | cons x l ih => intro at0; unfold codeE; rw [List.length_append, List.length_cons]; have := inE_pos at0 x; have := ih x.at'; omega
def fnE (f : Fc) : Bs := textE f.name ++ (numE f.params ++ (numE f.regs ++ (numE f.code.length ++ codeE 0 f.code)))
def fnD (l : Bs) : Option (Fc × Bs) :=
  match textD l with
  | none => none
  | some (s, r) => match numD r with
    | none => none
    | some (a, r) => match numD r with
      | none => none
      | some (b, r) => match countD r with
        | none => none
        | some (n, r) => match codeD n 0 r with
          | none => none
          | some (c, r) => some (⟨s, a, b, c⟩, r)
def IF (f : Fc) : Prop := I64 f.name.size ∧ I64 f.params ∧ I64 f.regs ∧ I64 f.code.length ∧ ∀ x ∈ f.code, I5 x
theorem fn_codec : Codec fnE fnD IF := by
  constructor
  · intro f r ⟨h1, h2, h3, h4, h5⟩
    unfold fnE fnD
    simp only [List.append_assoc]
    rw [text_codec.to _ _ h1]; simp only
    rw [num_codec.to _ _ h2]; simp only
    rw [num_codec.to _ _ h3]; simp only
    rw [countD_to h4 (by rw [List.length_append]; have := code_ge f.code 0; omega)]; simp only
    rw [codeD_to _ h5]
  · intro l f r h
    unfold fnD at h
    cases h1 : textD l with
    | none => rw [h1] at h; cases h
    | some q =>
    obtain ⟨s, r1⟩ := q
    rw [h1] at h; simp only at h
    cases h2 : numD r1 with
    | none => rw [h2] at h; cases h
    | some q =>
    obtain ⟨a, r2⟩ := q
    rw [h2] at h; simp only at h
    cases h3 : numD r2 with
    | none => rw [h3] at h; cases h
    | some q =>
    obtain ⟨b, r3⟩ := q
    rw [h3] at h; simp only at h
    cases h4 : countD r3 with
    | none => rw [h4] at h; cases h
    | some q =>
    obtain ⟨n, r4⟩ := q
    rw [h4] at h; simp only at h
    cases h5 : codeD n 0 r4 with
    | none => rw [h5] at h; cases h
    | some q =>
    obtain ⟨c, r5⟩ := q
    rw [h5] at h
    simp only [Option.some.injEq, Prod.mk.injEq] at h
    obtain ⟨rfl, rfl⟩ := h
    obtain ⟨e1, p1⟩ := text_codec.of _ _ _ h1
    obtain ⟨e2, p2⟩ := num_codec.of _ _ _ h2
    obtain ⟨e3, p3⟩ := num_codec.of _ _ _ h3
    obtain ⟨e4, p4, _⟩ := countD_of h4
    obtain ⟨e5, p5, p6⟩ := codeD_of _ _ _ _ _ h5
    subst p5
    refine ⟨?_, p1, p2, p3, p4, p6⟩
    unfold fnE
    simp only [List.append_assoc]
    rw [← e5, ← e4, ← e3, ← e2, e1]
theorem fnE_pos (f : Fc) : 0 < (fnE f).length := by unfold fnE textE; simp only [List.length_append]; have := numE_pos f.params; omega
def lyE (l : List Int) : Bs := listE numE l
def lyD (l : Bs) : Option (List Int × Bs) := listD numD l
theorem lyE_pos (l : List Int) : 0 < (lyE l).length := by unfold lyE listE; rw [List.length_append]; have := numE_pos l.length; omega
def pgE (p : Pg) : Bs := listE glE p.globals ++ (listE lyE p.layouts ++ (listE fnE p.funcs ++ numE p.main))
def pgD (l : Bs) : Option (Pg × Bs) :=
  match listD glD l with
  | none => none
  | some (g, r) => match listD lyD r with
    | none => none
    | some (y, r) => match listD fnD r with
      | none => none
      | some (f, r) => match numD r with
        | none => none
        | some (m, r) => some (⟨f, g, y, m⟩, r)
structure IP (p : Pg) : Prop where
  g : I64 p.globals.length ∧ ∀ g ∈ p.globals, I64 g.name.size ∧ I64 g.kind
  y : I64 p.layouts.length ∧ ∀ l ∈ p.layouts, I64 l.length ∧ ∀ k ∈ l, I64 k
  f : I64 p.funcs.length ∧ ∀ f ∈ p.funcs, IF f
  m : I64 p.main
theorem ly_codec : Codec lyE lyD (fun l => I64 l.length ∧ ∀ k ∈ l, I64 k) := list_codec num_codec numE_pos
theorem pg_codec : Codec pgE pgD IP := by
  constructor
  · intro p r h
    unfold pgE pgD
    simp only [List.append_assoc]
    rw [(list_codec gl_codec glE_pos).to _ _ h.g]; simp only
    rw [(list_codec ly_codec lyE_pos).to _ _ h.y]; simp only
    rw [(list_codec fn_codec fnE_pos).to _ _ h.f]; simp only
    rw [num_codec.to _ _ h.m]
  · intro l p r h
    unfold pgD at h
    cases h1 : listD glD l with
    | none => rw [h1] at h; cases h
    | some q =>
    obtain ⟨g, r1⟩ := q
    rw [h1] at h; simp only at h
    cases h2 : listD lyD r1 with
    | none => rw [h2] at h; cases h
    | some q =>
    obtain ⟨y, r2⟩ := q
    rw [h2] at h; simp only at h
    cases h3 : listD fnD r2 with
    | none => rw [h3] at h; cases h
    | some q =>
    obtain ⟨f, r3⟩ := q
    rw [h3] at h; simp only at h
    cases h4 : numD r3 with
    | none => rw [h4] at h; cases h
    | some q =>
    obtain ⟨m, r4⟩ := q
    rw [h4] at h
    simp only [Option.some.injEq, Prod.mk.injEq] at h
    obtain ⟨rfl, rfl⟩ := h
    obtain ⟨e1, p1⟩ := (list_codec gl_codec glE_pos).of _ _ _ h1
    obtain ⟨e2, p2⟩ := (list_codec ly_codec lyE_pos).of _ _ _ h2
    obtain ⟨e3, p3⟩ := (list_codec fn_codec fnE_pos).of _ _ _ h3
    obtain ⟨e4, p4⟩ := num_codec.of _ _ _ h4
    refine ⟨?_, p1, p2, p3, p4⟩
    unfold pgE
    simp only [List.append_assoc]
    rw [← e4, ← e3, ← e2, e1]
def bodyD (l : Bs) : Option Pg := match pgD l with | some (p, []) => some p | _ => none
theorem bodyD_to {p : Pg} (h : IP p) : bodyD (pgE p) = some p := by
  have := pg_codec.to p [] h
  rw [List.append_nil] at this
  unfold bodyD; rw [this]
theorem bodyD_of {l : Bs} {p : Pg} (h : bodyD l = some p) : l = pgE p ∧ IP p := by
  unfold bodyD at h
  split at h
  · rename_i q hq
    simp only [Option.some.injEq] at h
    subst h
    obtain ⟨e, hp⟩ := pg_codec.of _ _ _ hq
    exact ⟨by rw [e, List.append_nil], hp⟩
  · cases h
/-! ### the checksum -/
def mark : Bs := [105, 108, 118, 49]
def stepS (h : BitVec 32) (c : UInt8) : BitVec 32 := (h ^^^ (c.toBitVec.setWidth 32)) * 16777619#32
def sumF (l : Bs) : BitVec 32 := l.foldl stepS 2166136261#32
def sumE (s : BitVec 32) : Bs := [UInt8.ofNat (s.toNat / 16777216), UInt8.ofNat (s.toNat / 65536 % 256), UInt8.ofNat (s.toNat / 256 % 256), UInt8.ofNat (s.toNat % 256)]
theorem mul_inj {x y : BitVec 32} (h : x * 16777619#32 = y * 16777619#32) : x = y := by
  have h2 := congrArg (· * 899433627#32) h
  simp only [BitVec.mul_assoc] at h2
  rw [show (16777619#32 * 899433627#32) = 1#32 by decide] at h2
  simpa using h2
theorem xor_inj {a x y : BitVec 32} (h : a ^^^ x = a ^^^ y) : x = y := by
  have := congrArg (a ^^^ ·) h
  simpa [← BitVec.xor_assoc] using this
theorem stepS_inj {x y : BitVec 32} {c : UInt8} (h : stepS x c = stepS y c) : x = y := by
  have := mul_inj h
  rw [BitVec.xor_comm x, BitVec.xor_comm y] at this
  exact xor_inj this
theorem stepS_inj2 {x : BitVec 32} {c d : UInt8} (h : stepS x c = stepS x d) : c = d := by
  have h1 := xor_inj (mul_inj h)
  have h2 := congrArg BitVec.toNat h1
  simp only [BitVec.toNat_setWidth] at h2
  have hc := c.toNat_lt
  have hd := d.toNat_lt
  have e1 : c.toBitVec.toNat = c.toNat := rfl
  have e2 : d.toBitVec.toNat = d.toNat := rfl
  rw [e1, e2] at h2
  apply UInt8.toNat_inj.1
  omega
theorem fold_inj (l : Bs) : ∀ {x y : BitVec 32}, l.foldl stepS x = l.foldl stepS y → x = y := by
  induction l with
  | nil => intro x y h; exact h
  | cons c l ih => intro x y h; exact stepS_inj (ih h)
theorem fold_ne : ∀ (l : Bs) (i : Nat) (hi : i < l.length) (c : UInt8) (x : BitVec 32), c ≠ l[i] → (l.set i c).foldl stepS x ≠ l.foldl stepS x := by
  intro l
  induction l with
  | nil => intro i hi; cases hi
  | cons a l ih =>
    intro i hi c x hc h
    cases i with
    | zero =>
      simp only [List.set_cons_zero, List.foldl_cons] at h
      exact hc (by simpa using stepS_inj2 (fold_inj l h))
    | succ i =>
      simp only [List.set_cons_succ, List.foldl_cons] at h
      exact ih i (by simpa using hi) c _ (by simpa using hc) h
theorem sumE_len (s : BitVec 32) : (sumE s).length = 4 := rfl
theorem sumE_inj {s t : BitVec 32} (h : sumE s = sumE t) : s = t := by
  have hs := s.isLt
  have ht := t.isLt
  unfold sumE at h
  simp only [List.cons.injEq, and_true] at h
  obtain ⟨h1, h2, h3, h4⟩ := h
  have k1 := congrArg UInt8.toNat h1
  have k2 := congrArg UInt8.toNat h2
  have k3 := congrArg UInt8.toNat h3
  have k4 := congrArg UInt8.toNat h4
  rw [u8_nat (by omega), u8_nat (by omega)] at k1
  rw [u8_nat (by omega), u8_nat (by omega)] at k2
  rw [u8_nat (by omega), u8_nat (by omega)] at k3
  rw [u8_nat (by omega), u8_nat (by omega)] at k4
  apply BitVec.eq_of_toNat_eq
  omega
/-! ### the whole -/
def headF (p : Pg) : Bs := mark ++ pgE p
def formE (p : Pg) : Bs := headF p ++ sumE (sumF (headF p))
/-- What Decode answers: the program, and the number of the error. -/
inductive Ans | form | sum | arg | ok (p : Pg)
def ans (l : Bs) : Ans :=
  if l.length < 8 ∨ ¬ l.take 4 = mark then .form
  else if ¬ l.drop (l.length - 4) = sumE (sumF (l.take (l.length - 4))) then .sum
  else match bodyD ((l.take (l.length - 4)).drop 4) with
    | none => .form
    | some p => if validB p = true then .ok p else .arg
theorem form_len (p : Pg) : 8 ≤ (formE p).length := by unfold formE headF; simp only [List.length_append, sumE_len]; simp [mark]
theorem take_form (p : Pg) : (formE p).take ((formE p).length - 4) = headF p := by
  unfold formE
  rw [List.length_append, sumE_len, Nat.add_sub_cancel, List.take_left]
theorem drop_form (p : Pg) : (formE p).drop ((formE p).length - 4) = sumE (sumF (headF p)) := by
  unfold formE
  rw [List.length_append, sumE_len, Nat.add_sub_cancel, List.drop_left]
theorem mark_form (p : Pg) : (formE p).take 4 = mark := by
  unfold formE headF
  rw [List.append_assoc]
  exact List.take_left' rfl
theorem ans_form {p : Pg} (h : IP p) : ans (formE p) = if validB p = true then .ok p else .arg := by
  unfold ans
  rw [if_neg (by have := form_len p; rw [mark_form]; simp; omega), take_form, drop_form, if_neg (by simp)]
  unfold headF
  rw [List.drop_left' (show mark.length = 4 from rfl), bodyD_to h]
theorem ans_ok {l : Bs} {p : Pg} (h : ans l = .ok p) : l = formE p ∧ IP p ∧ validB p = true := by
  unfold ans at h
  by_cases h1 : l.length < 8 ∨ ¬ l.take 4 = mark
  · rw [if_pos h1] at h; cases h
  rw [if_neg h1] at h
  by_cases h2 : l.drop (l.length - 4) = sumE (sumF (l.take (l.length - 4)))
  · rw [if_neg (by simpa using h2)] at h
    cases hb : bodyD ((l.take (l.length - 4)).drop 4) with
    | none => rw [hb] at h; cases h
    | some q =>
      rw [hb] at h
      simp only at h
      by_cases hv : validB q = true
      · rw [if_pos hv] at h
        simp only [Ans.ok.injEq] at h
        subst h
        obtain ⟨e, hp⟩ := bodyD_of hb
        refine ⟨?_, hp, hv⟩
        have h3 : l.take 4 = mark := by
          apply Classical.byContradiction; intro hn; exact h1 (.inr hn)
        have h4 : l.take (l.length - 4) = headF q := by
          unfold headF
          rw [← e, ← h3, show l.take 4 = (l.take (l.length - 4)).take 4 by rw [List.take_take, Nat.min_eq_left (by omega)], List.take_append_drop]
        rw [← List.take_append_drop (l.length - 4) l, h2, h4]
        rfl
      · rw [if_neg hv] at h; cases h
  · rw [if_pos h2] at h; cases h
theorem ans_spoilt {p : Pg} {i : Nat} (hi : i < (formE p).length) {c : UInt8} (hc : c ≠ (formE p)[i]) : ans ((formE p).set i c) = .form ∨ ans ((formE p).set i c) = .sum := by
  unfold ans
  by_cases h1 : ((formE p).set i c).length < 8 ∨ ¬ ((formE p).set i c).take 4 = mark
  · rw [if_pos h1]; exact .inl rfl
  rw [if_neg h1, if_pos ?_]
  · exact .inr rfl
  have hlen : (formE p).length = (headF p).length + 4 := by unfold formE; rw [List.length_append, sumE_len]
  rw [List.length_set, List.take_set, List.drop_set, take_form, drop_form]
  by_cases hb : i < (headF p).length
  · rw [if_pos (by omega)]
    intro h
    have := sumE_inj h
    unfold sumF at this
    refine fold_ne (headF p) i hb c _ ?_ this.symm
    intro e
    apply hc
    rw [e]
    have h7 : (formE p)[i]? = (headF p)[i]? := by
      unfold formE
      rw [List.getElem?_append_left hb]
    rw [List.getElem?_eq_getElem hi, List.getElem?_eq_getElem hb] at h7
    simpa using h7.symm
  · have hset : (headF p).set i c = headF p := List.set_eq_of_length_le (by omega)
    rw [if_neg (by omega), hset]
    intro h
    apply hc
    have h2 := congrArg (·[i - ((formE p).length - 4)]?) h
    have h3 : i - ((formE p).length - 4) < (sumE (sumF (headF p))).length := by rw [sumE_len]; omega
    simp only [List.getElem?_set_self h3] at h2
    rw [List.getElem?_eq_getElem h3] at h2
    have h4 : c = (sumE (sumF (headF p)))[i - ((formE p).length - 4)] := by simpa using h2
    rw [h4]
    have h5 : (formE p)[i]? = (sumE (sumF (headF p)))[i - (headF p).length]? := by
      unfold formE
      rw [List.getElem?_append_right (by omega)]
    have h6 : (formE p).length - 4 = (headF p).length := by omega
    rw [List.getElem?_eq_getElem hi] at h5
    simp only [h6] at h3 ⊢
    rw [List.getElem?_eq_getElem h3] at h5
    simpa using h5.symm
/-! ### lists that are too long -/
def cutF (f : Fc) : Fc := { f with code := f.code.take 1001 }
def cutP (p : Pg) : Pg := ⟨(p.funcs.map cutF).take 65, p.globals.take 65, (p.layouts.map (·.take 65)).take 33, p.main⟩
theorem cut_valid (p : Pg) : (validB (cutP p) = true → cutP p = p) ∧ (validB p = true → cutP p = p) := by
  have key : (p.funcs.length ≤ 64) → (p.globals.length ≤ 64) → p.layouts.length ≤ 32 → (∀ l ∈ p.layouts, l.length ≤ 64) → (∀ f ∈ p.funcs, f.code.length ≤ 1000) → cutP p = p := by
    intro h1 h2 h3 h4 h5
    unfold cutP
    rw [List.take_of_length_le (by rw [List.length_map]; omega), List.take_of_length_le (by omega), List.take_of_length_le (l := p.layouts.map _) (by rw [List.length_map]; omega)]
    have e1 : p.funcs.map cutF = p.funcs := by
      rw [List.map_congr_left (g := id)]
      · simp
      · intro f hf
        unfold cutF
        rw [List.take_of_length_le (by have := h5 f hf; omega)]; rfl
    have e2 : p.layouts.map (·.take 65) = p.layouts := by
      rw [List.map_congr_left (g := id)]
      · simp
      · intro l hl
        rw [List.take_of_length_le (by have := h4 l hl; omega)]; rfl
    rw [e1, e2]
  have parts : ∀ q : Pg, validB q = true → q.funcs.length ≤ 64 ∧ q.globals.length ≤ 64 ∧ q.layouts.length ≤ 32 ∧ (∀ l ∈ q.layouts, l.length ≤ 64) ∧ (∀ f ∈ q.funcs, f.code.length ≤ 1000) := by
    intro q h
    unfold validB at h
    simp only [Bool.and_eq_true, decide_eq_true_eq] at h
    obtain ⟨⟨⟨⟨⟨⟨h1, h2⟩, _⟩, _⟩, _⟩, h3⟩, _⟩ := h
    unfold layoutsB at h2
    simp only [Bool.and_eq_true, decide_eq_true_eq, List.all_eq_true] at h2 h3
    exact ⟨h1.1, h1.2, h2.2, fun l hl => (h2.1 l hl).2, fun f hf => by have := h3 f hf; unfold functionB at this; simp only [Bool.and_eq_true, decide_eq_true_eq] at this; exact this.1.1.2.2.2.2.2⟩
  constructor
  · intro h
    obtain ⟨h1, h2, h3, h4, h5⟩ := parts _ h
    unfold cutP at h1 h2 h3 h4 h5
    simp only [List.length_take, List.length_map] at h1 h2 h3
    have k1 : p.funcs.length ≤ 64 := by omega
    have k3 : p.layouts.length ≤ 32 := by omega
    simp only at h4 h5
    rw [List.take_of_length_le (by rw [List.length_map]; omega)] at h4 h5
    refine key k1 (by omega) k3 (fun l hl => ?_) (fun f hf => ?_)
    · have := h4 _ (List.mem_map_of_mem (f := (·.take 65)) hl)
      simp only [List.length_take] at this; omega
    · have := h5 _ (List.mem_map_of_mem (f := cutF) hf)
      unfold cutF at this
      simp only [List.length_take] at this; omega
  · intro h
    obtain ⟨h1, h2, h3, h4, h5⟩ := parts _ h
    exact key h1 h2 h3 h4 h5
theorem cut_same (p : Pg) : validB (cutP p) = validB p := by
  obtain ⟨h1, h2⟩ := cut_valid p
  rw [Bool.eq_iff_iff]
  exact ⟨fun h => by rw [← h1 h]; exact h, fun h => by rw [h2 h]; exact h⟩
end Go.Proofs.Ytlkaeonedijfpaa.C
