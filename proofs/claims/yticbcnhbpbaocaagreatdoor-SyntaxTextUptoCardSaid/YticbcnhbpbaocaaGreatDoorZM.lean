/-
  Plain mathematics: what is printed of permitted files reads as its tokens, and two files have the same text exactly if they are the same without annotations. No program text is reached here.
-/
import Derived.Test.YticbcnhbpbaocaaGreatDoorMA
import Derived.Test.YticbcnhbpbaocaaGreatDoorTA

set_option linter.all false
namespace Go.Proofs.YticbcnhbpbaocaaGreatDoor.Z
open M T T.Fo

abbrev Bs := List UInt8
abbrev Tk := Nat × Bs
abbrev TL := List Tk
def kt (l : List Tok) : TL := l.map fun t => (t.k, t.t)
theorem kt_app (a b : List Tok) : kt (a ++ b) = kt a ++ kt b := by simp [kt]
/-- s before whatever P takes reads as L; i, j: whether a line feed inserts, before and behind. -/
def Lx (i : Bool) (s : Bs) (L : TL) (j : Bool) (P : Bs → Prop) : Prop :=
  ∀ r, P r → ∀ a, ∃ l, toks (s ++ r) a i = (l ++ (toks r (a + s.length) j).1, (toks r (a + s.length) j).2) ∧ kt l = L
def PT : Bs → Prop := fun _ => True
def PN : Bs → Prop := fun r => match r with | [] => True | c :: _ => isLD c.toNat = false
def PE : Bs → Prop := fun r => match r with | [] => True | c :: _ => ¬ c = 61
theorem Lx.weak {i j : Bool} {s : Bs} {L : TL} {P Q : Bs → Prop} (h : Lx i s L j P) (hq : ∀ r, Q r → P r) : Lx i s L j Q := fun r hr => h r (hq r hr)
theorem Lx.comp {i j k : Bool} {s s' : Bs} {L L' : TL} {P P' : Bs → Prop} (h : Lx i s L j P) (h' : Lx j s' L' k P') (hp : ∀ r, P' r → P (s' ++ r)) : Lx i (s ++ s') (L ++ L') k P' := by
  intro r hr a
  obtain ⟨l, h1, h2⟩ := h (s' ++ r) (hp r hr) a
  obtain ⟨l', h3, h4⟩ := h' r hr (a + s.length)
  refine ⟨l ++ l', ?_, by rw [kt_app, h2, h4]⟩
  rw [List.append_assoc, h1, h3, List.length_append, ← Nat.add_assoc]
  simp [List.append_assoc]
theorem Lx.nil (i : Bool) (P : Bs → Prop) : Lx i [] [] i P := fun r _ a => ⟨[], by simp, rfl⟩
theorem Lx.sp {c : UInt8} (i : Bool) (h : sep i c.toNat = true) : Lx i [c] [] i PT := by
  intro r _ a
  exact ⟨[], by rw [show [c] ++ r = c :: r from rfl, toks_sep h]; rfl, rfl⟩
theorem Lx.blank (i : Bool) : Lx i [32] [] i PT := Lx.sp i rfl
theorem Lx.tab (i : Bool) : Lx i [9] [] i PT := Lx.sp i rfl
theorem Lx.feed0 : Lx false [10] [] false PT := Lx.sp false rfl
theorem Lx.feed1 : Lx true [10] [(4, [59])] false PT := by
  intro r _ a
  exact ⟨[⟨4, [59], a⟩], by rw [show [(10 : UInt8)] ++ r = 10 :: r from rfl, toks_feed (by rfl) (by rfl)]; rfl, rfl⟩
theorem Lx.tabs (i : Bool) : ∀ n, Lx i (T.tabs n) [] i PT
  | 0 => Lx.nil i PT
  | n + 1 => (Lx.tab i).comp (Lx.tabs i n) fun _ _ => trivial
/-- One token. -/
theorem Lx.tok {c : UInt8} {s : Bs} {k : Nat} {P : Bs → Prop} (hs : ∀ i, sep i c.toNat = false) (h10 : c.toNat ≠ 10) (h5 : ¬ k = 5) (hn : ∀ r, P r → nx (c :: s ++ r) = (k, (c :: s).length, 0)) (i : Bool) : Lx i (c :: s) [(k, c :: s)] (endB k (c :: s)) P := by
  intro r hr a
  have hn' : nx (c :: (s ++ r)) = (k, (c :: s).length, 0) := hn r hr
  have h := toks_tok (a := a) (hs i) h10 hn'
  rw [if_neg h5] at h
  have e1 : (c :: (s ++ r)).take (c :: s).length = c :: s := by simp
  have e2 : (c :: (s ++ r)).drop (c :: s).length = r := by simp
  rw [e1, e2] at h
  exact ⟨[⟨k, c :: s, a⟩], h, rfl⟩

/-! ### names and keywords -/
theorem spn_app {p : Nat → Bool} : ∀ (s r : Bs), (∀ c ∈ s, p c.toNat = true) → (match r with | [] => True | c :: _ => p c.toNat = false) → spn p (s ++ r) = s.length
  | [], [], _, _ => rfl
  | [], c :: r, _, h => by rw [List.nil_append, spn_cons, if_neg (by rw [h]; simp)]; rfl
  | c :: s, r, hs, h => by
    rw [List.cons_append, spn_cons, if_pos (hs c (List.mem_cons_self ..)), spn_app s r (fun x hx => hs x (List.mem_cons_of_mem _ hx)) h, List.length_cons]
theorem letter_bd {c : UInt8} (h : isL c.toNat = true) : 65 ≤ c.toNat := by unfold isL at h; simp at h; omega
theorem nx_word {c : UInt8} {s r : Bs} (hL : isL c.toNat = true) (ha : ∀ x ∈ c :: s, isLD x.toNat = true) (hl : (c :: s).length ≤ 32) (hr : PN r) : nx (c :: s ++ r) = (if kw (c :: s) then 3 else 1, (c :: s).length, 0) := by
  have hs : spn isLD (c :: s ++ r) = (c :: s).length := spn_app _ _ ha (by cases r with | nil => trivial | cons x r => exact hr)
  have ht : (c :: s ++ r).take (c :: s).length = c :: s := by simp
  unfold nx
  rw [show c :: s ++ r = c :: (s ++ r) from rfl] at *
  simp only
  rw [if_pos hL, hs, if_neg (by omega), ht]
theorem sep_word {c : UInt8} (hL : 48 ≤ c.toNat) (i : Bool) : sep i c.toNat = false := by unfold sep; cases i <;> simp <;> omega
theorem Lx.name {t : Bs} (h : nmB t = true) (i : Bool) : Lx i t [(1, t)] true PN := by
  unfold nmB at h
  simp only [Bool.and_eq_true, decide_eq_true_eq, Bool.not_eq_true', List.all_eq_true] at h
  obtain ⟨⟨⟨h1, h2⟩, h3⟩, h4⟩ := h
  cases t with
  | nil => simp [hdL] at h2
  | cons c s =>
    have hL : isL c.toNat = true := h2
    have hb := letter_bd hL
    exact Lx.tok (k := 1) (sep_word (by omega)) (by omega) (by omega) (fun r hr => by rw [nx_word hL h4 h1 hr, h3]; rfl) i
theorem Lx.kw {t : Bs} (h : M.kw t = true) (hh : hdL t = true) (ha : t.all (fun c => isLD c.toNat) = true) (hl : t.length ≤ 32) (i : Bool) : Lx i t [(3, t)] (endB 3 t) PN := by
  cases t with
  | nil => simp [hdL] at hh
  | cons c s =>
    have hL : isL c.toNat = true := hh
    have hb := letter_bd hL
    rw [List.all_eq_true] at ha
    exact Lx.tok (k := 3) (sep_word (by omega)) (by omega) (by omega) (fun r hr => by rw [nx_word hL ha hl hr, h]; rfl) i
/-! ### integers -/
theorem digs_ne (n : Nat) : digs n ≠ [] := by
  rw [digs]; split <;> simp
theorem digs_dig (n : Nat) : ∀ c ∈ digs n, isD c.toNat = true := by
  induction n using Nat.strongRecOn with
  | _ n ih =>
    intro c hc
    rw [digs] at hc
    have key : ∀ k, k < 10 → isD (UInt8.ofNat (48 + k)).toNat = true := fun k hk => by
      have : (UInt8.ofNat (48 + k)).toNat = 48 + k := by simp [UInt8.toNat_ofNat]; omega
      rw [this]; unfold isD; simp; omega
    split at hc
    · rw [List.mem_singleton] at hc; rw [hc]; exact key n (by assumption)
    · rw [List.mem_append] at hc
      rcases hc with hc | hc
      · exact ih (n / 10) (by omega) c hc
      · rw [List.mem_singleton] at hc; rw [hc]; exact key (n % 10) (by omega)
theorem val_app (a : Bs) (c : UInt8) : val (a ++ [c]) = 10 * val a + (c.toNat - 48) := by
  unfold val; rw [List.foldl_append]; rfl
theorem digs_val (n : Nat) : val (digs n) = n := by
  induction n using Nat.strongRecOn with
  | _ n ih =>
    rw [digs]
    have key : ∀ k, k < 10 → (UInt8.ofNat (48 + k)).toNat = 48 + k := fun k hk => by simp [UInt8.toNat_ofNat]; omega
    split
    · rename_i h
      show 10 * 0 + ((UInt8.ofNat (48 + n)).toNat - 48) = n
      rw [key n h]; omega
    · rw [val_app, ih (n / 10) (by omega), key (n % 10) (by omega)]; omega
theorem digs_lead (n : Nat) : lead (digs n) = false := by
  have key : ∀ k, 1 ≤ k → k < 10 → UInt8.ofNat (48 + k) ≠ 48 := fun k h1 h2 e => by
    have := congrArg UInt8.toNat e
    have h3 : (UInt8.ofNat (48 + k)).toNat = 48 + k := by simp [UInt8.toNat_ofNat]; omega
    rw [h3] at this
    have : (48 : UInt8).toNat = 48 := rfl
    omega
  have hd : ∀ n, 1 ≤ n → ∀ c, (digs n).head? = some c → c ≠ 48 := by
    intro n
    induction n using Nat.strongRecOn with
    | _ n ih =>
      intro h1 c hc
      rw [digs] at hc
      split at hc
      · rename_i h; have hc2 : UInt8.ofNat (48 + n) = c := Option.some.inj hc; rw [← hc2]; exact key n h1 h
      · have hne := digs_ne (n / 10)
        rw [List.head?_append] at hc
        cases hd : (digs (n / 10)).head? with
        | none => rw [List.head?_eq_none_iff] at hd; exact absurd hd hne
        | some x =>
          rw [hd] at hc
          simp at hc
          rw [← hc]
          exact ih (n / 10) (by omega) (by omega) x hd
  unfold lead
  by_cases h : n < 10
  · rw [digs, if_pos h]; simp
  · cases hx : (digs n).head? with
    | none => simp
    | some c => have := hd n (by omega) c hx; simp [this]
theorem Lx.int (n : Nat) (hn : n < 9223372036854775808) (i : Bool) : Lx i (digs n) [(2, digs n)] true PN := by
  have hd := digs_dig n
  have hv := digs_val n
  have hle := digs_lead n
  have hok : numOk (digs n) = true := by unfold numOk; rw [hv, hle]; simp; exact hn
  cases hx : digs n with
  | nil => exact absurd hx (digs_ne n)
  | cons c s =>
    rw [hx] at hd hok
    have hc := hd c (List.mem_cons_self ..)
    have hb := digit_bd hc
    have hnl : isL c.toNat = false := by unfold isL; simp; omega
    refine Lx.tok (k := 2) (sep_word (by omega)) (by omega) (by omega) (fun r hr => ?_) i
    have hs : spn isD (c :: s ++ r) = (c :: s).length := spn_app _ _ hd (by
      cases r with
      | nil => trivial
      | cons x r =>
        have h2 : isLD x.toNat = false := hr
        unfold isLD at h2
        simp only [Bool.or_eq_false_iff] at h2
        exact h2.2)
    have ht : (c :: s ++ r).take (c :: s).length = c :: s := by simp
    have hdr : (c :: s ++ r).drop (c :: s).length = r := by simp
    have hh : hdL r = false := by
      cases r with
      | nil => rfl
      | cons x r =>
        have h2 : isLD x.toNat = false := hr
        unfold isLD at h2
        simp only [Bool.or_eq_false_iff] at h2
        exact h2.1
    unfold nx
    rw [show c :: s ++ r = c :: (s ++ r) from rfl] at *
    simp only
    rw [hs, ht, hdr, hok, hh]
    simp [hnl, hc]
/-! ### operators -/
theorem Lx.op1 {c : UInt8} {P : Bs → Prop} (hs : ∀ i, sep i c.toNat = false) (h10 : c.toNat ≠ 10) (hn : ∀ r, P r → nx (c :: r) = (4, 1, 0)) (i : Bool) : Lx i [c] [(4, [c])] (endB 4 [c]) P :=
  Lx.tok (k := 4) hs h10 (by omega) (fun r hr => by have := hn r hr; simpa using this) i
theorem nx1 {c : UInt8} (hL : isL c.toNat = false) (hD : isD c.toNat = false) (h47 : c ≠ 47) (h2 : ∀ x, ¬ [c, x] ∈ ops2) (h1 : [c] ∈ ops1) (h2' : ¬ [c] ∈ ops2) (r : Bs) : nx (c :: r) = (4, 1, 0) := by
  unfold nx
  simp only
  have e1 : (c :: r).take 1 = [c] := rfl
  cases r with
  | nil =>
    have e2 : [c].take 2 = [c] := rfl
    simp [hL, hD, e2, opOf, h2', h1]
  | cons x r =>
    have e2 : (c :: x :: r).take 2 = [c, x] := rfl
    simp [hL, hD, e2, opOf, h2, h1, h47]
theorem op_any (c : UInt8) (hc : [40, 41, 91, 93, 123, 125, 44, 59, 46, 43, 45, 42, 37].contains c = true) (i : Bool) : Lx i [c] [(4, [c])] (endB 4 [c]) PT := by
  have hc2 : c = 40 ∨ c = 41 ∨ c = 91 ∨ c = 93 ∨ c = 123 ∨ c = 125 ∨ c = 44 ∨ c = 59 ∨ c = 46 ∨ c = 43 ∨ c = 45 ∨ c = 42 ∨ c = 37 := by simpa using hc
  rcases hc2 with rfl | rfl | rfl | rfl | rfl | rfl | rfl | rfl | rfl | rfl | rfl | rfl | rfl
  all_goals exact Lx.op1 (fun i => by cases i <;> rfl) (by decide) (fun r _ => nx1 (by decide) (by decide) (by decide) (fun x => by simp [ops2]) (by decide) (by decide) r) i
theorem op_bang (i : Bool) : Lx i [33] [(4, [33])] false PE := by
  refine Lx.op1 (c := 33) (fun i => by cases i <;> rfl) (by decide) (fun r hr => ?_) i
  unfold nx
  simp only
  cases r with
  | nil => rfl
  | cons x r =>
    have hx : ¬ x = 61 := hr
    have e2 : ((33 : UInt8) :: x :: r).take 2 = [33, x] := rfl
    simp [isL, isD, opOf, ops2, ops1, hx]
theorem op_recv (i : Bool) : Lx i [60, 45] [(4, [60, 45])] false PT :=
  Lx.tok (c := 60) (s := [45]) (k := 4) (fun i => by cases i <;> rfl) (by decide) (by omega) (fun r _ => by
    unfold nx
    simp [isL, isD, opOf, ops2]) i
/-- An operator and a blank. -/
theorem op_sp {o : Bs} (h : ([[124, 124], [38, 38], [61, 61], [33, 61], [60], [60, 61], [62], [62, 61], [43], [45], [42], [47], [37], [61], [58, 61], [60, 45]] : List Bs).contains o = true) (i : Bool) : Lx i (o ++ [32]) [(4, o)] false PT := by
  have h2 : o = [124, 124] ∨ o = [38, 38] ∨ o = [61, 61] ∨ o = [33, 61] ∨ o = [60] ∨ o = [60, 61] ∨ o = [62] ∨ o = [62, 61] ∨ o = [43] ∨ o = [45] ∨ o = [42] ∨ o = [47] ∨ o = [37] ∨ o = [61] ∨ o = [58, 61] ∨ o = [60, 45] := by simpa using h
  have key : ∀ c s, (∀ i, sep i c.toNat = false) → c.toNat ≠ 10 → (∀ r, nx (c :: s ++ (32 :: r)) = (4, (c :: s).length, 0)) → endB 4 (c :: s) = false → Lx i ((c :: s) ++ [32]) [(4, c :: s)] false PT := fun c s h1 h2 h3 h4 => by
    have a := Lx.tok (k := 4) (c := c) (s := s) (P := fun r => ∃ r', r = 32 :: r') h1 h2 (by omega) (fun r hr => by obtain ⟨r', rfl⟩ := hr; exact h3 r') i
    rw [h4] at a
    have := a.comp (Lx.blank false) (fun r _ => ⟨r, rfl⟩)
    simpa using this
  rcases h2 with rfl | rfl | rfl | rfl | rfl | rfl | rfl | rfl | rfl | rfl | rfl | rfl | rfl | rfl | rfl | rfl
  all_goals exact key _ _ (fun i => by cases i <;> rfl) (by decide) (fun r => by unfold nx; simp [isL, isD, opOf, ops2, ops1]) (by decide)
theorem op_colon (i : Bool) : Lx i [58, 10] [(4, [58])] false PT := by
  have a := Lx.tok (k := 4) (c := 58) (s := []) (P := fun r => ∃ r', r = 10 :: r') (fun i => by cases i <;> rfl) (by decide) (by omega) (fun r hr => by obtain ⟨r', rfl⟩ := hr; unfold nx; simp [isL, isD, opOf, ops2, ops1]) i
  rw [show endB 4 [58] = false by decide] at a
  have := a.comp Lx.feed0 (fun r _ => ⟨r, rfl⟩)
  simpa using this
end Go.Proofs.YticbcnhbpbaocaaGreatDoor.Z

set_option linter.all false
namespace Go.Proofs.YticbcnhbpbaocaaGreatDoor.Z
open M T T.Fo

abbrev op (c : Bs) : Tk := (4, c)
abbrev kwd (w : Bs) : Tk := (3, w)
abbrev wChan : Bs := [99, 104, 97, 110]
abbrev wInt : Bs := [105, 110, 116]
abbrev wFunc : Bs := [102, 117, 110, 99]
structure Tc where
  h : Hd
  ex : TL
  st : TL
  ls : TL
def t0 : Tc := ⟨r0.h, [], [], []⟩
def nt (K : List Tc) (i : Nat) : Tc := K.getD i t0
def commaK : List TL → TL
  | [] => []
  | [a] => a
  | a :: b :: l => a ++ [op [44]] ++ commaK (b :: l)
def typeK (h : Hd) : TL :=
  if h.kind = 8 then [op [42]] ++ [(1, h.text.data.toList)]
  else if h.text.data.toList = wChan then [kwd wChan, kwd wInt]
  else if h.text.data.toList = wFunc then [kwd wFunc, op [40], op [41]]
  else if h.text.data.toList = [91, 93, 105, 110, 116] then [op [91], op [93], kwd wInt]
  else [kwd h.text.data.toList]
def parK (b : Bool) (s : TL) : TL := if b then [op [40]] ++ s ++ [op [41]] else s
def opdK (r : Tc) : TL := parK (r.h.kind == 32) r.ex
def baseK (r : Tc) : TL := parK (r.h.kind == 32 || r.h.kind == 31 || r.h.kind == 33) r.ex
def blkK (ls : TL) : TL := [op [123]] ++ ls ++ [op [125]]
def exK (h : Hd) (K : List Tc) : TL :=
  let t := h.text.data.toList
  if h.kind = 24 then [(2, digs h.num.toNat)]
  else if h.kind = 25 then (if h.num = 1 then [kwd [116, 114, 117, 101]] else [kwd [102, 97, 108, 115, 101]])
  else if h.kind = 26 then [kwd [110, 105, 108]]
  else if h.kind = 27 then [(1, t)]
  else if h.kind = 34 then [kwd [110, 101, 119], op [40]] ++ [(1, t)] ++ [op [41]]
  else if h.kind = 28 then baseK (nt K 0) ++ [op [46]] ++ [(1, t)]
  else if h.kind = 29 then baseK (nt K 0) ++ [op [91]] ++ (nt K 1).ex ++ [op [93]]
  else if h.kind = 30 then baseK (nt K 0) ++ [op [40]] ++ commaK ((K.drop 1).map (·.ex)) ++ [op [41]]
  else if h.kind = 31 then [op t] ++ opdK (nt K 0)
  else if h.kind = 33 then [op [60, 45]] ++ opdK (nt K 0)
  else if h.kind = 32 then opdK (nt K 0) ++ [op t] ++ opdK (nt K 1)
  else if h.kind = 35 then [kwd [109, 97, 107, 101], op [40], op [91], op [93], kwd wInt, op [44]] ++ (nt K 0).ex ++ [op [41]]
  else if h.kind = 36 then [kwd [109, 97, 107, 101], op [40], kwd wChan, kwd wInt, op [44]] ++ (nt K 0).ex ++ [op [41]]
  else if h.kind = 37 then [kwd [108, 101, 110], op [40]] ++ (nt K 0).ex ++ [op [41]]
  else [kwd wFunc, op [40], op [41]] ++ blkK (nt K 0).ls
def varK (h : Hd) (K : List Tc) : TL := [kwd [118, 97, 114]] ++ [(1, h.text.data.toList)] ++ typeK (nt K 0).h ++ (if (nt K 1).h.kind = 9 then [] else [op [61]] ++ (nt K 1).ex)
def caseK (K : List Tc) : TL := (if (nt K 0).h.kind = 9 then [kwd [100, 101, 102, 97, 117, 108, 116]] else [kwd [99, 97, 115, 101]] ++ (nt K 0).st) ++ [op [58]] ++ (nt K 1).ls
def stK (h : Hd) (ls : TL) (K : List Tc) : TL :=
  let t := h.text.data.toList
  if h.kind = 2 then [kwd [116, 121, 112, 101]] ++ [(1, t)] ++ [kwd [115, 116, 114, 117, 99, 116]] ++ blkK ls
  else if h.kind = 3 then [(1, t)] ++ typeK (nt K 0).h
  else if h.kind = 4 then [kwd wFunc] ++ [(1, t)] ++ [op [40]] ++ (nt K 0).st ++ [op [41]] ++ (if (nt K 1).h.kind = 9 then [] else typeK (nt K 1).h) ++ blkK (nt K 2).ls
  else if h.kind = 5 then commaK (K.map (·.st))
  else if h.kind = 6 then varK h K
  else if h.kind = 10 then blkK ls
  else if h.kind = 11 then [(1, t)] ++ [op [58, 61]] ++ (nt K 0).ex
  else if h.kind = 12 then (nt K 0).ex ++ [op [61]] ++ (nt K 1).ex
  else if h.kind = 13 then (nt K 0).ex
  else if h.kind = 14 then [kwd [103, 111]] ++ (nt K 0).ex
  else if h.kind = 15 then [kwd [100, 101, 102, 101, 114]] ++ (nt K 0).ex
  else if h.kind = 16 then (nt K 0).ex ++ [op [60, 45]] ++ (nt K 1).ex
  else if h.kind = 17 then [kwd [99, 108, 111, 115, 101], op [40]] ++ (nt K 0).ex ++ [op [41]]
  else if h.kind = 21 then [kwd [112, 114, 105, 110, 116], op [40]] ++ (nt K 0).ex ++ [op [41]]
  else if h.kind = 18 then [kwd [105, 102]] ++ (nt K 0).ex ++ blkK (nt K 1).ls ++ (if (nt K 2).h.kind = 9 then [] else [kwd [101, 108, 115, 101]] ++ (nt K 2).st)
  else if h.kind = 20 then [kwd [114, 101, 116, 117, 114, 110]] ++ (if K.length = 0 then [] else (nt K 0).ex)
  else if h.kind = 22 then [kwd [115, 101, 108, 101, 99, 116], op [123]] ++ (K.map fun r => r.st).flatten ++ [op [125]]
  else if h.kind = 23 then caseK K
  else if (nt K 0).h.kind = 9 then [kwd [102, 111, 114]] ++ blkK (nt K 1).ls else [kwd [102, 111, 114]] ++ (nt K 0).ex ++ blkK (nt K 1).ls
def lineK (r : Tc) : TL := r.st ++ [op [59]]
def linesK (K : List Tc) : TL := (K.map lineK).flatten
def mkT (h : Hd) (K : List Tc) : Tc := ⟨h, exK h K, stK h (linesK K) K, linesK K⟩
def tcF : Fo → List Tc
  | .nil => []
  | .cons h k r => mkT h (tcF k) :: tcF r
def tcT (h : Hd) (k : Fo) : Tc := mkT h (tcF k)
theorem tcF_cons (h : Hd) (k r : Fo) : tcF (.cons h k r) = tcT h k :: tcF r := rfl
theorem tcT_h (h : Hd) (k : Fo) : (tcT h k).h = h := rfl
def fileK (k : Fo) : TL := linesK (tcF k)

/-! ### pieces of text -/
theorem Lx.cast {i j : Bool} {s s' : Bs} {L L' : TL} {P : Bs → Prop} (h : Lx i s L j P) (e : s = s') (e' : L = L') : Lx i s' L' j P := e ▸ e' ▸ h
theorem kw_t {t : Bs} (h : M.kw t = true) (hh : hdL t = true) (ha : t.all (fun c => isLD c.toNat) = true) (hl : t.length ≤ 32) {b : Bool} (hb : endB 3 t = b) (i : Bool) : Lx i t [(3, t)] b PN := hb ▸ Lx.kw h hh ha hl i
abbrev KW (t : Bs) (b : Bool) : Prop := ∀ i, Lx i t [(3, t)] b PN
theorem kwT {t : Bs} {b : Bool} (h : (M.kw t && hdL t && t.all (fun c => isLD c.toNat) && decide (t.length ≤ 32) && (endB 3 t == b)) = true) : KW t b := fun i => by
  simp only [Bool.and_eq_true, decide_eq_true_eq, beq_iff_eq] at h
  obtain ⟨⟨⟨⟨h1, h2⟩, h3⟩, h4⟩, h5⟩ := h
  exact kw_t h1 h2 h3 h4 h5 i
theorem opT (c : UInt8) {b : Bool} (hc : ([40, 41, 91, 93, 123, 125, 44, 59, 46, 43, 45, 42, 37].contains c && (endB 4 [c] == b)) = true) (i : Bool) : Lx i [c] [op [c]] b PT := by
  simp only [Bool.and_eq_true, beq_iff_eq] at hc
  exact hc.2 ▸ op_any c hc.1 i
/-- A keyword and a blank. -/
theorem kwsp {t : Bs} {b : Bool} (h : KW t b) (i : Bool) : Lx i (t ++ [32]) [kwd t] b PT := by
  have := (h i).comp (Lx.blank b) (fun _ _ => rfl)
  simpa using this
theorem lp (i : Bool) : Lx i [40] [op [40]] false PT := opT 40 (by decide) i
theorem rp (i : Bool) : Lx i [41] [op [41]] true PT := opT 41 (by decide) i
theorem cm (i : Bool) : Lx i [44, 32] [op [44]] false PT := (opT (b := false) 44 (by decide) i).comp (Lx.blank false) fun _ _ => trivial
theorem kwlp {t : Bs} {b : Bool} (h : KW t b) (i : Bool) : Lx i (t ++ [40]) [kwd t, op [40]] false PT := (h i).comp (lp b) (fun _ _ => rfl)
theorem k_true : KW [116, 114, 117, 101] true := kwT (by decide)
theorem k_false : KW [102, 97, 108, 115, 101] true := kwT (by decide)
theorem k_nil : KW [110, 105, 108] true := kwT (by decide)
theorem k_new : KW [110, 101, 119] false := kwT (by decide)
theorem k_make : KW [109, 97, 107, 101] false := kwT (by decide)
theorem k_len : KW [108, 101, 110] false := kwT (by decide)
theorem k_func : KW wFunc false := kwT (by decide)
theorem k_chan : KW wChan false := kwT (by decide)
theorem k_int : KW wInt true := kwT (by decide)
theorem c_mslice (i : Bool) : Lx i [109, 97, 107, 101, 40, 91, 93, 105, 110, 116, 44, 32] [kwd [109, 97, 107, 101], op [40], op [91], op [93], kwd wInt, op [44]] false PT :=
  ((((kwlp k_make i).comp (opT (b := false) 91 (by decide) false) fun _ _ => trivial).comp (opT (b := true) 93 (by decide) false) fun _ _ => trivial).comp (k_int true) fun _ _ => trivial).comp (cm true) fun _ _ => rfl
theorem c_mchan (i : Bool) : Lx i [109, 97, 107, 101, 40, 99, 104, 97, 110, 32, 105, 110, 116, 44, 32] [kwd [109, 97, 107, 101], op [40], kwd wChan, kwd wInt, op [44]] false PT :=
  (((kwlp k_make i).comp (kwsp k_chan false) fun _ _ => trivial).comp (k_int false) fun _ _ => trivial).comp (cm true) fun _ _ => rfl
theorem c_func (i : Bool) : Lx i [102, 117, 110, 99, 40, 41, 32] [kwd wFunc, op [40], op [41]] true PT := ((kwlp k_func i).comp (rp false) fun _ _ => trivial).comp (Lx.blank true) fun _ _ => trivial
abbrev nz : ByteArray → Bool := fun s => nmB s.data.toList
theorem type_lx {h : Hd} (hk : T.typeK h.kind = true) (ht : textFits nz h = true) (i : Bool) : Lx i (typeS h) (Z.typeK h) true PN := by
  simp only [T.typeK, Bool.or_eq_true, beq_iff_eq] at hk
  obtain ⟨kd, t, nu, p, tk, tn, r, u⟩ := h
  rcases hk with e | e
  · obtain rfl : kd = 7 := e
    have h1 : T.isTypeText t = true := ht
    have h2 : t.data.toList ∈ typeWords := by simpa [T.isTypeText] using h1
    simp only [typeWords, List.mem_cons, List.not_mem_nil, or_false] at h2
    unfold typeS Z.typeK
    rcases h2 with e | e | e | e | e | e | e | e | e | e <;> simp only [e]
    · exact k_int i
    · exact (kwT (t := [98, 111, 111, 108]) (b := true) (by decide)) i
    · exact ((opT (b := false) 91 (by decide) i).comp (opT (b := true) 93 (by decide) false) fun _ _ => trivial).comp (k_int true) fun _ _ => trivial
    · exact (kwsp k_chan i).comp (k_int false) fun _ _ => trivial
    · exact ((kwlp k_func i).comp (rp false) fun _ _ => trivial).weak fun _ _ => trivial
    · exact (kwT (t := [109, 117, 116, 101, 120]) (b := true) (by decide)) i
    · exact (kwT (t := [114, 119, 109, 117, 116, 101, 120]) (b := true) (by decide)) i
    · exact (kwT (t := [103, 114, 111, 117, 112]) (b := true) (by decide)) i
    · exact (kwT (t := [111, 110, 99, 101]) (b := true) (by decide)) i
    · exact (kwT (t := [97, 116, 111, 109, 105, 99]) (b := true) (by decide)) i
  · obtain rfl : kd = 8 := e
    have h1 : nmB t.data.toList = true := ht
    exact (opT (b := false) 42 (by decide) i).comp (Lx.name h1 false) fun _ _ => trivial
end Go.Proofs.YticbcnhbpbaocaaGreatDoor.Z

set_option linter.all false
namespace Go.Proofs.YticbcnhbpbaocaaGreatDoor.Z
open M T T.Fo

/-- A text that begins, and not with an equals sign. -/
def H1 (s : Bs) : Prop := ∃ c t, s = c :: t ∧ ¬ c = 61
theorem H1.app {s r : Bs} (h : H1 s) : H1 (s ++ r) := by obtain ⟨c, t, rfl, h⟩ := h; exact ⟨c, t ++ r, rfl, h⟩
theorem H1.pe {s r : Bs} (h : H1 s) : PE (s ++ r) := by obtain ⟨c, t, rfl, h⟩ := h; exact h
/-- An expression's text. -/
def EX (s : Bs) (L : TL) : Prop := (∀ i, Lx i s L true PN) ∧ H1 s
structure Gz (h : Hd) (k : Fo) : Prop where
  ok : okT nz h k = true
  s : sh h
  sk : k.AllH sh
theorem kids_gz : ∀ {k : Fo}, okF nz k = true → k.AllH sh → k.All Gz
  | .nil, _, _ => trivial
  | .cons h kk r, ho, hs => by
    rw [okF_cons, Bool.and_eq_true] at ho
    exact ⟨⟨ho.1, hs.1, hs.2.1⟩, kids_gz ho.2 hs.2.2⟩
theorem Gz.parts {h : Hd} {k : Fo} (g : Gz h k) : textFits nz h = true ∧ numFits h = true ∧ childrenFit h k = true ∧ okF nz k = true := by
  have := g.ok
  unfold okT at this
  simp only [Bool.and_eq_true] at this
  exact ⟨this.1.1.1, this.1.1.2, this.1.2, this.2⟩
theorem Gz.kids {h : Hd} {k : Fo} (g : Gz h k) : k.All Gz := kids_gz g.parts.2.2.2 g.sk
theorem aimp {P Q : Hd → Fo → Prop} (H : ∀ h k, P h k → Q h k) : ∀ {F : Fo}, F.All P → F.All Q
  | .nil, _ => trivial
  | .cons _ _ _, ⟨h1, h2⟩ => ⟨H _ _ h1, aimp H h2⟩
structure LQ (n : Nat) (h : Hd) (k : Fo) : Prop where
  ex : exprK h.kind = true → EX (rcT n h k).ex (tcT h k).ex
  st : stmtK h.kind = true → ∀ i, Lx i (rcT n h k).st (tcT h k).st true PN
  ls : h.kind = 10 → Lx false (rcT n h k).ls (tcT h k).ls false PT
  cs : h.kind = 23 → ∀ i, Lx i (rcT n h k).st (tcT h k).st false PT
def LP (h : Hd) (k : Fo) : Prop := ∀ n, Gz h k → LQ n h k
theorem Gz.lq {h : Hd} {k : Fo} (g : Gz h k) (H : k.All LP) (n : Nat) : k.All fun h' k' => LQ n h' k' ∧ Gz h' k' := aimp (fun h k hh => ⟨hh.1 n hh.2, hh.2⟩) (all_and H g.kids)
theorem par_lx {b : Bool} {s : Bs} {L : TL} (h : EX s L) : EX (par b s) (parK b L) := by
  cases b with
  | false => exact h
  | true => exact ⟨fun i => (((lp i).comp (h.1 false) fun _ _ => trivial).comp (rp true) fun _ _ => rfl).weak fun _ _ => trivial, ⟨40, _, rfl, by decide⟩⟩
theorem opd_lx {n : Nat} {h : Hd} {k : Fo} (q : LQ n h k) (e : exprK h.kind = true) : EX (opdS (rcT n h k)) (opdK (tcT h k)) := par_lx (q.ex e)
theorem base_lx {n : Nat} {h : Hd} {k : Fo} (q : LQ n h k) (e : exprK h.kind = true) : EX (baseS (rcT n h k)) (baseK (tcT h k)) := par_lx (q.ex e)
theorem blk_lx {n : Nat} {s : Bs} {L : TL} (h : Lx false s L false PT) (i : Bool) : Lx i (blkS n s) (blkK L) true PT := by
  have a := ((((opT (b := false) 123 (by decide) i).comp Lx.feed0 fun _ _ => trivial).comp h fun _ _ => trivial).comp (Lx.tabs false n) fun _ _ => trivial).comp (opT (b := true) 125 (by decide) false) fun _ _ => trivial
  exact a.cast (by simp [blkS]) (by simp [blkK])
theorem Lx.pn {i j : Bool} {s : Bs} {L : TL} (h : Lx i s L j PT) : Lx i s L j PN := h.weak fun _ _ => trivial
theorem name_h1 {t : Bs} (h : nmB t = true) : H1 t := by
  unfold nmB at h
  simp only [Bool.and_eq_true, decide_eq_true_eq, Bool.not_eq_true', List.all_eq_true] at h
  obtain ⟨⟨⟨h1, h2⟩, h3⟩, h4⟩ := h
  cases t with
  | nil => simp [hdL] at h2
  | cons c s =>
    have hL : isL c.toNat = true := h2
    have hb := letter_bd hL
    exact ⟨c, s, rfl, fun e => by rw [e] at hb; have : (61 : UInt8).toNat = 61 := rfl; omega⟩
theorem digs_h1 (n : Nat) : H1 (digs n) := by
  have hd := digs_dig n
  cases hx : digs n with
  | nil => exact absurd hx (digs_ne n)
  | cons c s =>
    rw [hx] at hd
    have hb := digit_bd (hd c (List.mem_cons_self ..))
    exact ⟨c, s, rfl, fun e => by rw [e] at hb; have : (61 : UInt8).toNat = 61 := rfl; omega⟩
theorem comma_lx (n : Nat) : ∀ (F : Fo) (a : Bs) (A : TL), (∀ i, Lx i a A true PN) → (F.All fun h k => EX (rcT n h k).ex (tcT h k).ex) → ∀ i, Lx i (joinC (a :: (rcF F n).map (·.ex))) (commaK (A :: (tcF F).map (·.ex))) true PN
  | .nil, a, A, ha, _, i => ha i
  | .cons h k r, a, A, ha, hF, i => by
    rw [rcF_cons, tcF_cons]
    exact ((ha i).comp (cm true) fun _ _ => rfl).comp (comma_lx n r _ _ hF.1.1 hF.2 false) fun _ _ => trivial
theorem commas_lx (n : Nat) : ∀ (F : Fo) (a : Bs) (A : TL), (∀ i, Lx i a A true PN) → (F.All fun h k => ∀ i, Lx i (rcT n h k).st (tcT h k).st true PN) → ∀ i, Lx i (joinC (a :: (rcF F n).map (·.st))) (commaK (A :: (tcF F).map (·.st))) true PN
  | .nil, a, A, ha, _, i => ha i
  | .cons h k r, a, A, ha, hF, i => by
    rw [rcF_cons, tcF_cons]
    exact ((ha i).comp (cm true) fun _ _ => rfl).comp (commas_lx n r _ _ hF.1 hF.2 false) fun _ _ => trivial
theorem lines_lx (n : Nat) : ∀ F : Fo, (F.All fun h k => ∀ i, Lx i (rcT n h k).st (tcT h k).st true PN) → Lx false (T.linesS n (rcF F n)) (linesK (tcF F)) false PT
  | .nil, _ => Lx.nil false PT
  | .cons h k r, hF => by
    rw [rcF_cons, tcF_cons]
    have a := (((Lx.tabs false n).comp (hF.1 false) fun _ _ => trivial).comp Lx.feed1 fun _ _ => rfl).comp (lines_lx n r hF.2) fun _ _ => trivial
    exact a.cast (by simp [T.linesS, T.lineS]) (by simp [linesK, lineK])
theorem tst_10 (h : Hd) (k : Fo) (e : h.kind = 10) : (tcT h k).st = blkK (tcT h k).ls := by
  obtain ⟨kd, t, nu, p, tk, tn, r, u⟩ := h
  obtain rfl : kd = 10 := e
  rfl
theorem zst_10 (n : Nat) (h : Hd) (k : Fo) (e : h.kind = 10) : (rcT n h k).st = blkS n (rcT n h k).ls := by
  obtain ⟨kd, t, nu, p, tk, tn, r, u⟩ := h
  obtain rfl : kd = 10 := e
  rfl
section
variable {n : Nat} {k : Fo} (t : ByteArray) (nu p tk : Int) (tn : ByteArray) (r u : Int)
theorem ex_any {h : Hd} {k : Fo} (he : exprK h.kind = true) (g : Gz h k) (H : k.All LP) : EX (rcT n h k).ex (tcT h k).ex := by
  have hc := g.parts.2.2.1
  have ht := g.parts.1
  have hnf := g.parts.2.1
  have hs := g.s.2
  have R := g.lq H n
  obtain ⟨kd, t, nu, p, tk, tn, r, u⟩ := h
  simp only [exprK, Bool.or_eq_true, beq_iff_eq] at he
  rcases he with (((((((((((((rfl | rfl) | rfl) | rfl) | rfl) | rfl) | rfl) | rfl) | rfl) | rfl) | rfl) | rfl) | rfl) | rfl) | rfl
  · -- 28
    simp [childrenFit, places] at hc
    obtain ⟨h0, k0, rfl, q0⟩ := fits_one hc
    have B := base_lx R.1.1 q0
    have N : nmB t.data.toList = true := ht
    exact ⟨fun i => ((B.1 i).comp (opT (b := false) 46 (by decide) true) fun _ _ => rfl).comp (Lx.name N false) fun _ _ => trivial, (B.2.app).app⟩
  · -- 29
    simp [childrenFit, places] at hc
    obtain ⟨h0, k0, h1, k1, rfl, q0, q1⟩ := fits_two hc
    have B := base_lx R.1.1 q0
    have E := R.2.1.1.ex q1
    exact ⟨fun i => ((((B.1 i).comp (opT (b := false) 91 (by decide) true) fun _ _ => rfl).comp (E.1 false) fun _ _ => trivial).comp (opT (b := true) 93 (by decide) true) fun _ _ => rfl).pn, ((B.2.app).app).app⟩
  · -- 30
    simp [childrenFit, places] at hc
    obtain ⟨hm, hA⟩ := fits_rep hc
    cases k with
    | nil => simp [Fo.len] at hm
    | cons h0 k0 F =>
      have B := base_lx R.1.1 hA.1
      have hE : F.All fun h k => EX (rcT n h k).ex (tcT h k).ex := aimp (fun h k hh => hh.1.1.ex hh.2) (all_and R.2 hA.2)
      have J : ∀ i, Lx i (joinC ((rcF F n).map (·.ex))) (commaK ((tcF F).map (·.ex))) (match F with | .nil => i | _ => true) PN := fun i => by
        cases F with
        | nil => exact Lx.nil i PN
        | cons h1 k1 F => rw [rcF_cons, tcF_cons]; exact comma_lx n F _ _ hE.1.1 hE.2 i
      exact ⟨fun i => ((((B.1 i).comp (lp true) fun _ _ => rfl).comp (J false) fun _ _ => trivial).comp (rp _) fun _ _ => rfl).pn, ((B.2.app).app).app⟩
  · -- 31
    simp [childrenFit, places] at hc
    obtain ⟨h0, k0, rfl, q0⟩ := fits_one hc
    have B := opd_lx R.1.1 q0
    have h2 : (t.data.toList == [45] || t.data.toList == [33]) = true := ht
    simp only [Bool.or_eq_true, beq_iff_eq] at h2
    rcases h2 with e | e
    · exact ⟨fun i => by show Lx i (t.data.toList ++ _) ([op t.data.toList] ++ _) true PN; rw [e]; exact (opT (b := false) 45 (by decide) i).comp (B.1 false) fun _ _ => trivial, by show H1 (t.data.toList ++ _); rw [e]; exact ⟨45, _, rfl, by decide⟩⟩
    · exact ⟨fun i => by show Lx i (t.data.toList ++ _) ([op t.data.toList] ++ _) true PN; rw [e]; exact (op_bang i).comp (B.1 false) fun _ _ => B.2.pe, by show H1 (t.data.toList ++ _); rw [e]; exact ⟨33, _, rfl, by decide⟩⟩
  · -- 32
    simp [childrenFit, places] at hc
    obtain ⟨h0, k0, h1, k1, rfl, q0, q1⟩ := fits_two hc
    have A := opd_lx R.1.1 q0
    have B := opd_lx R.2.1.1 q1
    have h2 : T.isBinary t = true := ht
    have h3 : t.data.toList ∈ binWords := by simpa [T.isBinary] using h2
    have O := fun i => op_sp (o := t.data.toList) (by simp only [binWords, List.mem_cons, List.not_mem_nil, or_false] at h3; simp; rcases h3 with e | e | e | e | e | e | e | e | e | e | e | e | e <;> simp [e]) i
    refine ⟨fun i => ?_, ?_⟩
    · have a := (((A.1 i).comp (Lx.blank true) fun _ _ => rfl).comp (O true) fun _ _ => trivial).comp (B.1 false) fun _ _ => trivial
      exact a.cast (by show _ = opdS (rcT n h0 k0) ++ [32] ++ t.data.toList ++ [32] ++ opdS (rcT n h1 k1); simp) (by show _ = opdK (tcT h0 k0) ++ [op t.data.toList] ++ opdK (tcT h1 k1); simp)
    · exact (((A.2.app).app).app).app
  · -- 33
    simp [childrenFit, places] at hc
    obtain ⟨h0, k0, rfl, q0⟩ := fits_one hc
    have B := opd_lx R.1.1 q0
    exact ⟨fun i => (op_recv i).comp (B.1 false) fun _ _ => trivial, ⟨60, _, rfl, by decide⟩⟩
  · -- 35
    simp [childrenFit, places] at hc
    obtain ⟨h0, k0, rfl, q0⟩ := fits_one hc
    have E := R.1.1.ex q0
    exact ⟨fun i => (((c_mslice i).comp (E.1 false) fun _ _ => trivial).comp (rp true) fun _ _ => rfl).pn, ⟨109, _, rfl, by decide⟩⟩
  · -- 36
    simp [childrenFit, places] at hc
    obtain ⟨h0, k0, rfl, q0⟩ := fits_one hc
    have E := R.1.1.ex q0
    exact ⟨fun i => (((c_mchan i).comp (E.1 false) fun _ _ => trivial).comp (rp true) fun _ _ => rfl).pn, ⟨109, _, rfl, by decide⟩⟩
  · -- 37
    simp [childrenFit, places] at hc
    obtain ⟨h0, k0, rfl, q0⟩ := fits_one hc
    have E := R.1.1.ex q0
    exact ⟨fun i => (((kwlp k_len i).comp (E.1 false) fun _ _ => trivial).comp (rp true) fun _ _ => rfl).pn, ⟨108, _, rfl, by decide⟩⟩
  · -- 27
    have N : nmB t.data.toList = true := ht
    exact ⟨Lx.name N, name_h1 N⟩
  · -- 34
    have N : nmB t.data.toList = true := ht
    exact ⟨fun i => (((kwlp k_new i).comp (Lx.name N false) fun _ _ => trivial).comp (rp true) fun _ _ => rfl).pn, ⟨110, _, rfl, by decide⟩⟩
  · -- 24
    have hs' : nu < 9223372036854775808 := hs
    have h0 : (0 : Int) ≤ nu := by simpa [numFits] using hnf
    exact ⟨Lx.int nu.toNat (by omega), digs_h1 _⟩
  · -- 25
    by_cases e : nu = 1
    · exact ⟨fun i => by show Lx i (if nu = 1 then _ else _) (if nu = 1 then _ else _) true PN; rw [if_pos e, if_pos e]; exact k_true i, by show H1 (if nu = 1 then _ else _); rw [if_pos e]; exact ⟨116, _, rfl, by decide⟩⟩
    · exact ⟨fun i => by show Lx i (if nu = 1 then _ else _) (if nu = 1 then _ else _) true PN; rw [if_neg e, if_neg e]; exact k_false i, by show H1 (if nu = 1 then _ else _); rw [if_neg e]; exact ⟨102, _, rfl, by decide⟩⟩
  · -- 26
    exact ⟨k_nil, ⟨110, _, rfl, by decide⟩⟩
  · -- 38
    simp [childrenFit, places] at hc
    obtain ⟨h0, k0, rfl, q0⟩ := fits_one hc
    have e := one_kind q0
    simp at e
    exact ⟨fun i => ((c_func i).comp (blk_lx (R.1.1.ls e) true) fun _ _ => trivial).pn, ⟨102, _, rfl, by decide⟩⟩
end
end Go.Proofs.YticbcnhbpbaocaaGreatDoor.Z

set_option linter.all false
namespace Go.Proofs.YticbcnhbpbaocaaGreatDoor.Z
open M T T.Fo

theorem eqsp (i : Bool) : Lx i [32, 61, 32] [op [61]] false PT := (Lx.blank i).comp (op_sp (o := [61]) (by decide) i) fun _ _ => trivial
theorem defsp (i : Bool) : Lx i [32, 58, 61, 32] [op [58, 61]] false PT := (Lx.blank i).comp (op_sp (o := [58, 61]) (by decide) i) fun _ _ => trivial
theorem arrsp (i : Bool) : Lx i [32, 60, 45, 32] [op [60, 45]] false PT := (Lx.blank i).comp (op_sp (o := [60, 45]) (by decide) i) fun _ _ => trivial
theorem k_var : KW [118, 97, 114] false := kwT (by decide)
theorem k_go : KW [103, 111] false := kwT (by decide)
theorem k_defer : KW [100, 101, 102, 101, 114] false := kwT (by decide)
theorem k_close : KW [99, 108, 111, 115, 101] false := kwT (by decide)
theorem k_print : KW [112, 114, 105, 110, 116] false := kwT (by decide)
theorem k_if : KW [105, 102] false := kwT (by decide)
theorem k_else : KW [101, 108, 115, 101] false := kwT (by decide)
theorem k_for : KW [102, 111, 114] false := kwT (by decide)
theorem k_return : KW [114, 101, 116, 117, 114, 110] true := kwT (by decide)
theorem k_select : KW [115, 101, 108, 101, 99, 116] false := kwT (by decide)
theorem k_case : KW [99, 97, 115, 101] false := kwT (by decide)
theorem k_default : KW [100, 101, 102, 97, 117, 108, 116] false := kwT (by decide)
theorem k_type : KW [116, 121, 112, 101] false := kwT (by decide)
theorem k_struct : KW [115, 116, 114, 117, 99, 116] false := kwT (by decide)
theorem c_else (i : Bool) : Lx i [32, 101, 108, 115, 101, 32] [kwd [101, 108, 115, 101]] false PT := (Lx.blank i).comp (kwsp k_else i) fun _ _ => trivial
theorem c_struct (i : Bool) : Lx i [32, 115, 116, 114, 117, 99, 116, 32] [kwd [115, 116, 114, 117, 99, 116]] false PT := (Lx.blank i).comp (kwsp k_struct i) fun _ _ => trivial
theorem c_select (i : Bool) : Lx i [115, 101, 108, 101, 99, 116, 32, 123, 10] [kwd [115, 101, 108, 101, 99, 116], op [123]] false PT := ((kwsp k_select i).comp (opT (b := false) 123 (by decide) false) fun _ _ => trivial).comp Lx.feed0 fun _ _ => trivial
theorem c_rp (i : Bool) : Lx i [41, 32] [op [41]] true PT := (rp i).comp (Lx.blank true) fun _ _ => trivial
theorem var_lx {n : Nat} {h : Hd} {h0 h1 : Hd} {k0 k1 : Fo} (N : nmB h.text.data.toList = true) (T0 : ∀ i, Lx i (typeS h0) (Z.typeK h0) true PN) (E : h1.kind = 9 ∨ ∀ i, Lx i (rcT n h1 k1).ex (tcT h1 k1).ex true PN) (i : Bool) : Lx i (varS h [rcT n h0 k0, rcT n h1 k1]) (varK h [tcT h0 k0, tcT h1 k1]) true PN := by
  have a := (((kwsp k_var i).comp (Lx.name N false) fun _ _ => trivial).comp (Lx.blank true) fun _ _ => rfl).comp (T0 true) fun _ _ => trivial
  by_cases e : h1.kind = 9
  · exact a.cast (by simp [varS, T.nth, rcT_h, e]) (by simp [varK, nt, tcT_h, e])
  · have E' := E.resolve_left e
    have b := (a.comp (eqsp true) fun _ _ => rfl).comp (E' false) fun _ _ => trivial
    exact b.cast (by simp [varS, T.nth, rcT_h, e]) (by simp [varK, nt, tcT_h, e])
theorem case_all (n : Nat) : ∀ F : Fo, (F.All fun h k => ∀ i, Lx i (rcT n h k).st (tcT h k).st false PT) → Lx false (((rcF F n).map fun r => T.tabs n ++ r.st).flatten) (((tcF F).map fun r => r.st).flatten) false PT
  | .nil, _ => Lx.nil false PT
  | .cons h k r, hF => by
    rw [rcF_cons, tcF_cons]
    have a := ((Lx.tabs false n).comp (hF.1 false) fun _ _ => trivial).comp (case_all n r hF.2) fun _ _ => trivial
    exact a.cast (by simp) (by simp)
theorem ls_lx {n : Nat} {h : Hd} {k : Fo} (e : h.kind = 10) (g : Gz h k) (H : k.All LP) : Lx false (rcT n h k).ls (tcT h k).ls false PT := by
  have hc := g.parts.2.2.1
  have R := g.lq H (n + 1)
  obtain ⟨kd, t, nu, p, tk, tn, r, u⟩ := h
  obtain rfl : kd = 10 := e
  simp [childrenFit, places] at hc
  exact lines_lx (n + 1) k (aimp (fun h k hh => hh.1.1.st hh.2) (all_and R (fits_rep hc).2))
theorem case_lx {n : Nat} {h : Hd} {k : Fo} (e : h.kind = 23) (g : Gz h k) (H : k.All LP) (i : Bool) : Lx i (rcT n h k).st (tcT h k).st false PT := by
  have hc := g.parts.2.2.1
  have R := g.lq H n
  obtain ⟨kd, t, nu, p, tk, tn, r, u⟩ := h
  obtain rfl : kd = 23 := e
  simp [childrenFit, places] at hc
  obtain ⟨h0, k0, h1, k1, rfl, q0, q1⟩ := fits_two hc
  have e1 := one_kind q1
  simp at e1
  have L1 := R.2.1.1.ls e1
  simp only [opt, Bool.or_eq_true] at q0
  show Lx i (caseS n [rcT n h0 k0, rcT n h1 k1]) (caseK [tcT h0 k0, tcT h1 k1]) false PT
  by_cases h9 : h0.kind = 9
  · have a := ((k_default i).comp (op_colon false) fun _ _ => rfl).comp L1 fun _ _ => trivial
    exact a.cast (by simp [caseS, T.nth, rcT_h, h9]) (by simp [caseK, nt, tcT_h, h9])
  · have q : stmtK h0.kind = true := by
      rcases q0 with q | q
      · exact absurd (by simpa using q) h9
      · simp only [commT, Bool.or_eq_true, Bool.and_eq_true, beq_iff_eq] at q
        rcases q with q | ⟨(q | q) | q, _⟩ <;> rw [q] <;> rfl
    have a := (((kwsp k_case i).comp (R.1.1.st q false) fun _ _ => trivial).comp (op_colon true) fun _ _ => rfl).comp L1 fun _ _ => trivial
    exact a.cast (by simp [caseS, T.nth, rcT_h, h9]) (by simp [caseK, nt, tcT_h, h9])
theorem typ_of {h : Hd} {k : Fo} (q : isT h k = true) (g : Gz h k) (i : Bool) : Lx i (typeS h) (Z.typeK h) true PN := type_lx q g.parts.1 i
theorem st_lx {n : Nat} {h : Hd} {k : Fo} (he : stmtK h.kind = true) (g : Gz h k) (H : k.All LP) (i : Bool) : Lx i (rcT n h k).st (tcT h k).st true PN := by
  have hc := g.parts.2.2.1
  have ht := g.parts.1
  have R := g.lq H n
  have g0 := g
  obtain ⟨kd, t, nu, p, tk, tn, r, u⟩ := h
  simp only [stmtK, Bool.or_eq_true, beq_iff_eq] at he
  rcases he with ((((((((((((rfl | rfl) | rfl) | rfl) | rfl) | rfl) | rfl) | rfl) | rfl) | rfl) | rfl) | rfl) | rfl) | rfl
  · -- 6
    simp [childrenFit, places] at hc
    obtain ⟨h0, k0, h1, k1, rfl, q0, q1⟩ := fits_two hc
    have N : nmB t.data.toList = true := ht
    simp only [opt, Bool.or_eq_true] at q1
    exact var_lx (h := ⟨6, t, nu, p, tk, tn, r, u⟩) N (typ_of q0 R.1.2) (by
      by_cases h9 : h1.kind = 9
      · exact .inl h9
      · exact .inr (R.2.1.1.ex (by rcases q1 with q | q; exact absurd (by simpa using q) h9; exact q)).1) i
  · -- 10
    exact (blk_lx (ls_lx rfl g0 H) i).pn
  · -- 11
    simp [childrenFit, places] at hc
    obtain ⟨h0, k0, rfl, q0⟩ := fits_one hc
    have N : nmB t.data.toList = true := ht
    exact ((Lx.name N i).comp (defsp true) fun _ _ => rfl).comp ((R.1.1.ex q0).1 false) fun _ _ => trivial
  · -- 12
    simp [childrenFit, places] at hc
    obtain ⟨h0, k0, h1, k1, rfl, q0, q1⟩ := fits_two hc
    exact (((R.1.1.ex q0).1 i).comp (eqsp true) fun _ _ => rfl).comp ((R.2.1.1.ex q1).1 false) fun _ _ => trivial
  · -- 13
    simp [childrenFit, places] at hc
    obtain ⟨h0, k0, rfl, q0⟩ := fits_one hc
    have e : exprK h0.kind = true := by
      have := one_kind q0
      simp at this
      rcases this with h | h <;> rw [h] <;> rfl
    exact (R.1.1.ex e).1 i
  · -- 14
    simp [childrenFit, places] at hc
    obtain ⟨h0, k0, rfl, q0⟩ := fits_one hc
    have e : exprK h0.kind = true := by
      have := one_kind q0
      simp at this
      rw [this]; rfl
    exact (kwsp k_go i).comp ((R.1.1.ex e).1 false) fun _ _ => trivial
  · -- 15
    simp [childrenFit, places] at hc
    obtain ⟨h0, k0, rfl, q0⟩ := fits_one hc
    have e : exprK h0.kind = true := by
      have := one_kind q0
      simp at this
      rw [this]; rfl
    exact (kwsp k_defer i).comp ((R.1.1.ex e).1 false) fun _ _ => trivial
  · -- 16
    simp [childrenFit, places] at hc
    obtain ⟨h0, k0, h1, k1, rfl, q0, q1⟩ := fits_two hc
    exact (((R.1.1.ex q0).1 i).comp (arrsp true) fun _ _ => rfl).comp ((R.2.1.1.ex q1).1 false) fun _ _ => trivial
  · -- 17
    simp [childrenFit, places] at hc
    obtain ⟨h0, k0, rfl, q0⟩ := fits_one hc
    exact (((kwlp k_close i).comp ((R.1.1.ex q0).1 false) fun _ _ => trivial).comp (rp true) fun _ _ => rfl).pn
  · -- 21
    simp [childrenFit, places] at hc
    obtain ⟨h0, k0, rfl, q0⟩ := fits_one hc
    exact (((kwlp k_print i).comp ((R.1.1.ex q0).1 false) fun _ _ => trivial).comp (rp true) fun _ _ => rfl).pn
  · -- 18
    simp [childrenFit, places] at hc
    obtain ⟨h0, k0, h1, k1, h2, k2, rfl, q0, q1, q2⟩ := fits_three hc
    have e1 := one_kind q1
    simp at e1
    have a := (((kwsp k_if i).comp ((R.1.1.ex q0).1 false) fun _ _ => trivial).comp (Lx.blank true) fun _ _ => rfl).comp (blk_lx (n := n) (R.2.1.1.ls e1) true) fun _ _ => trivial
    simp only [opt, Bool.or_eq_true] at q2
    by_cases h9 : h2.kind = 9
    · exact a.pn.cast (by
        show _ = stS n ⟨18, t, nu, p, tk, tn, r, u⟩ (T.linesS (n + 1) [rcT (n + 1) h0 k0, rcT (n + 1) h1 k1, rcT (n + 1) h2 k2]) [rcT n h0 k0, rcT n h1 k1, rcT n h2 k2]
        simp [stS, T.nth, rcT_h, h9]) (by
        show _ = stK ⟨18, t, nu, p, tk, tn, r, u⟩ (linesK [tcT h0 k0, tcT h1 k1, tcT h2 k2]) [tcT h0 k0, tcT h1 k1, tcT h2 k2]
        simp [stK, nt, tcT_h, h9])
    · have q : stmtK h2.kind = true := by
        rcases q2 with q | q
        · exact absurd (by simpa using q) h9
        · have := one_kind q
          simp at this
          rcases this with h | h <;> rw [h] <;> rfl
      have b := (a.comp (c_else true) fun _ _ => trivial).comp (R.2.2.1.1.st q false) fun _ _ => trivial
      exact b.cast (by
        show _ = stS n ⟨18, t, nu, p, tk, tn, r, u⟩ (T.linesS (n + 1) [rcT (n + 1) h0 k0, rcT (n + 1) h1 k1, rcT (n + 1) h2 k2]) [rcT n h0 k0, rcT n h1 k1, rcT n h2 k2]
        simp [stS, T.nth, rcT_h, h9]) (by
        show _ = stK ⟨18, t, nu, p, tk, tn, r, u⟩ (linesK [tcT h0 k0, tcT h1 k1, tcT h2 k2]) [tcT h0 k0, tcT h1 k1, tcT h2 k2]
        simp [stK, nt, tcT_h, h9])
  · -- 19
    simp [childrenFit, places] at hc
    obtain ⟨h0, k0, h1, k1, rfl, q0, q1⟩ := fits_two hc
    have e1 := one_kind q1
    simp at e1
    simp only [opt, Bool.or_eq_true] at q0
    by_cases h9 : h0.kind = 9
    · have a := (kwsp k_for i).comp (blk_lx (n := n) (R.2.1.1.ls e1) false) fun _ _ => trivial
      exact a.pn.cast (by
        show _ = stS n ⟨19, t, nu, p, tk, tn, r, u⟩ (T.linesS (n + 1) [rcT (n + 1) h0 k0, rcT (n + 1) h1 k1]) [rcT n h0 k0, rcT n h1 k1]
        simp [stS, T.nth, rcT_h, h9]) (by
        show _ = stK ⟨19, t, nu, p, tk, tn, r, u⟩ (linesK [tcT h0 k0, tcT h1 k1]) [tcT h0 k0, tcT h1 k1]
        simp [stK, nt, tcT_h, h9])
    · have q : exprK h0.kind = true := by rcases q0 with q | q; exact absurd (by simpa using q) h9; exact q
      have a := (((kwsp k_for i).comp ((R.1.1.ex q).1 false) fun _ _ => trivial).comp (Lx.blank true) fun _ _ => rfl).comp (blk_lx (n := n) (R.2.1.1.ls e1) true) fun _ _ => trivial
      exact a.pn.cast (by
        show _ = stS n ⟨19, t, nu, p, tk, tn, r, u⟩ (T.linesS (n + 1) [rcT (n + 1) h0 k0, rcT (n + 1) h1 k1]) [rcT n h0 k0, rcT n h1 k1]
        simp [stS, T.nth, rcT_h, h9]) (by
        show _ = stK ⟨19, t, nu, p, tk, tn, r, u⟩ (linesK [tcT h0 k0, tcT h1 k1]) [tcT h0 k0, tcT h1 k1]
        simp [stK, nt, tcT_h, h9])
  · -- 20
    simp [childrenFit, places] at hc
    obtain ⟨hm, hA⟩ := fits_rep hc
    match k, hm, hA, R with
    | .nil, _, _, _ =>
      refine (k_return i).cast ?_ ?_
      · show _ = stS n ⟨20, t, nu, p, tk, tn, r, u⟩ (T.linesS (n + 1) []) []
        simp [stS]
      · show _ = stK ⟨20, t, nu, p, tk, tn, r, u⟩ (linesK []) []
        simp [stK]
    | .cons h0 k0 .nil, _, hA, R =>
      refine (((k_return i).comp (Lx.blank true) fun _ _ => rfl).comp ((R.1.1.ex hA.1).1 true) fun _ _ => trivial).cast ?_ ?_
      · show _ = stS n ⟨20, t, nu, p, tk, tn, r, u⟩ (T.linesS (n + 1) [rcT (n + 1) h0 k0]) [rcT n h0 k0]
        simp [stS, T.nth]
      · show _ = stK ⟨20, t, nu, p, tk, tn, r, u⟩ (linesK [tcT h0 k0]) [tcT h0 k0]
        simp [stK, nt]
    | .cons h0 k0 (.cons h1 k1 r'), hm, _, _ => simp only [Fo.len] at hm; omega
  · -- 22
    simp [childrenFit, places] at hc
    have hA := (fits_rep hc).2
    have C := case_all n k (aimp (fun h k hh => hh.1.1.cs (by have := one_kind hh.2; simpa using this)) (all_and R hA))
    exact ((((c_select i).comp C fun _ _ => trivial).comp (Lx.tabs false n) fun _ _ => trivial).comp (opT (b := true) 125 (by decide) false) fun _ _ => trivial).pn.cast rfl (by
      show _ = stK ⟨22, t, nu, p, tk, tn, r, u⟩ (linesK (tcF k)) (tcF k)
      simp [stK])
theorem lp_any (h : Hd) (k : Fo) : LP h k := Fo.ind (fun h k H n g => ⟨fun e => ex_any e g H, fun e => st_lx e g H, fun e => ls_lx e g H, fun e => case_lx e g H⟩) h k
theorem all_lp : ∀ F : Fo, F.All LP
  | .nil => trivial
  | .cons h k r => ⟨lp_any h k, all_lp r⟩
theorem field_lx {n : Nat} {h : Hd} {k : Fo} (e : h.kind = 3) (g : Gz h k) (i : Bool) : Lx i (rcT n h k).st (tcT h k).st true PN := by
  have hc := g.parts.2.2.1
  have ht := g.parts.1
  have gk := g.kids
  obtain ⟨kd, t, nu, p, tk, tn, r, u⟩ := h
  obtain rfl : kd = 3 := e
  simp [childrenFit, places] at hc
  obtain ⟨h0, k0, rfl, q0⟩ := fits_one hc
  have N : nmB t.data.toList = true := ht
  exact (((Lx.name N i).comp (Lx.blank true) fun _ _ => rfl).comp (typ_of q0 gk.1 true) fun _ _ => trivial).cast rfl (by
    show _ = [(1, t.data.toList)] ++ Z.typeK h0
    simp)
theorem fields_lx {n : Nat} {k : Fo} (g : k.All Gz) (hA : k.All fun h k => one [3] h k = true) : k.All fun h k => ∀ i, Lx i (rcT n h k).st (tcT h k).st true PN :=
  aimp (fun h k hh => field_lx (by have := one_kind hh.2; simpa using this) hh.1) (all_and g hA)
theorem decl_lx {h : Hd} {k : Fo} (e : declT h k = true) (g : Gz h k) (i : Bool) : Lx i (rcT 0 h k).st (tcT h k).st true PN := by
  have hc := g.parts.2.2.1
  have ht := g.parts.1
  have gk := g.kids
  have R := g.lq (all_lp k) 0
  have g0 := g
  obtain ⟨kd, t, nu, p, tk, tn, r, u⟩ := h
  simp only [declT, Bool.or_eq_true, Bool.and_eq_true, beq_iff_eq] at e
  rcases e with (rfl | rfl) | ⟨rfl, hl⟩
  · simp [childrenFit, places] at hc
    have N : nmB t.data.toList = true := ht
    have L := lines_lx 1 k (fields_lx gk (fits_rep hc).2)
    exact ((((kwsp k_type i).comp (Lx.name N false) fun _ _ => trivial).comp (c_struct true) fun _ _ => rfl).comp (blk_lx (n := 0) L false) fun _ _ => trivial).pn.cast rfl (by
      show _ = stK ⟨2, t, nu, p, tk, tn, r, u⟩ (linesK (tcF k)) (tcF k)
      simp [stK])
  · simp [childrenFit, places] at hc
    obtain ⟨h0, k0, h1, k1, h2, k2, rfl, q0, q1, q2⟩ := fits_three hc
    have N : nmB t.data.toList = true := ht
    have e0 := one_kind q0
    have e2 := one_kind q2
    simp at e0 e2
    have L2 := R.2.2.1.1.ls e2
    have c0 := gk.1.parts.2.2.1
    have hA : k0.All fun h k => one [3] h k = true := by
      obtain ⟨kd, t, nu, p, tk, tn, r, u⟩ := h0
      obtain rfl : kd = 5 := e0
      simp [childrenFit, places] at c0
      exact (fits_rep c0).2
    have FF := fields_lx (n := 0) gk.1.kids hA
    have J : Lx false (rcT 0 h0 k0).st (tcT h0 k0).st (match k0 with | .nil => false | _ => true) PN := by
      obtain ⟨kd, t, nu, p, tk, tn, r, u⟩ := h0
      obtain rfl : kd = 5 := e0
      show Lx false (joinC ((rcF k0 0).map (·.st))) (commaK ((tcF k0).map (·.st))) _ PN
      cases k0 with
      | nil => exact Lx.nil false PN
      | cons h3 k3 F => rw [rcF_cons, tcF_cons]; exact commas_lx 0 F _ _ FF.1 FF.2 false
    have a := (((((kwsp k_func i).comp (Lx.name N false) fun _ _ => trivial).comp (lp true) fun _ _ => rfl).comp J fun _ _ => trivial).comp (c_rp _) fun _ _ => rfl)
    by_cases h9 : h1.kind = 9
    · have b := a.comp (blk_lx (n := 0) L2 true) fun _ _ => trivial
      exact b.pn.cast (by
        show _ = stS 0 ⟨4, t, nu, p, tk, tn, r, u⟩ (T.linesS (0 + 1) [rcT (0 + 1) h0 k0, rcT (0 + 1) h1 k1, rcT (0 + 1) h2 k2]) [rcT 0 h0 k0, rcT 0 h1 k1, rcT 0 h2 k2]
        simp [stS, T.nth, rcT_h, h9]) (by
        show _ = stK ⟨4, t, nu, p, tk, tn, r, u⟩ (linesK [tcT h0 k0, tcT h1 k1, tcT h2 k2]) [tcT h0 k0, tcT h1 k1, tcT h2 k2]
        simp [stK, nt, tcT_h, h9])
    · have qT : isT h1 k1 = true := by
        simp only [opt, Bool.or_eq_true] at q1
        rcases q1 with q | q
        · exact absurd (by simpa using q) h9
        · exact q
      have b := ((a.comp (typ_of qT gk.2.1 true) fun _ _ => trivial).comp (Lx.blank true) fun _ _ => rfl).comp (blk_lx (n := 0) L2 true) fun _ _ => trivial
      exact b.pn.cast (by
        show _ = stS 0 ⟨4, t, nu, p, tk, tn, r, u⟩ (T.linesS (0 + 1) [rcT (0 + 1) h0 k0, rcT (0 + 1) h1 k1, rcT (0 + 1) h2 k2]) [rcT 0 h0 k0, rcT 0 h1 k1, rcT 0 h2 k2]
        simp [stS, T.nth, rcT_h, h9]) (by
        show _ = stK ⟨4, t, nu, p, tk, tn, r, u⟩ (linesK [tcT h0 k0, tcT h1 k1, tcT h2 k2]) [tcT h0 k0, tcT h1 k1, tcT h2 k2]
        simp [stK, nt, tcT_h, h9])
  · exact st_lx (h := ⟨6, t, nu, p, tk, tn, r, u⟩) rfl g0 (all_lp k) i
theorem file_lx : ∀ F : Fo, F.All Gz → (F.All fun h k => declT h k = true) → Lx false (fileS F) (fileK F) false PT
  | .nil, _, _ => Lx.nil false PT
  | .cons h k r, g, hA => by
    have a := ((decl_lx hA.1 g.1 false).comp Lx.feed1 fun _ _ => rfl).comp (file_lx r g.2 hA.2) fun _ _ => trivial
    exact a.cast (by unfold fileS; rw [rcF_cons]; simp) (by unfold fileK; rw [tcF_cons]; simp [linesK, lineK])
/-- A file's text scans without error, to its tokens. -/
theorem file_toks {F : Fo} (g : F.All Gz) (hA : F.All fun h k => declT h k = true) : kt (toks (fileS F) 0 false).1 = fileK F ∧ (toks (fileS F) 0 false).2.2 = 0 := by
  obtain ⟨l, h1, h2⟩ := file_lx F g hA [] trivial 0
  rw [List.append_nil, toks_nil] at h1
  rw [h1]
  exact ⟨by simpa using h2, rfl⟩
theorem file_scan {F : Fo} (g : F.All Gz) (hA : F.All fun h k => declT h k = true) (hl : (fileS F).length ≤ 20000) : scanE (fileS F) = 0 := by
  unfold scanE scanR
  rw [if_neg (by omega), scanAll_eq]
  exact (file_toks g hA).2
end Go.Proofs.YticbcnhbpbaocaaGreatDoor.Z

set_option linter.all false
namespace Go.Proofs.YticbcnhbpbaocaaGreatDoor.Z
open M T T.Fo

abbrev Tr := Hd × Fo
abbrev R := Option (Tr × TL)
abbrev RL := Option (List Tr × TL)
def hb (k : Int) (t : Bs) (n : Int) : Hd := ⟨k, ⟨t.toArray⟩, n, 0, 0, ⟨#[]⟩, 0, 0⟩
def nd (k : Int) (t : Bs) (l : List Tr) : Tr := (hb k t 0, Fo.of l)
def none0 : Tr := nd 9 [] []
def eat (t : Tk) : TL → Option TL
  | [] => none
  | x :: r => if x = t then some r else none
def isAt (t : Tk) : TL → Bool
  | [] => false
  | x :: _ => decide (x = t)
theorem eat_self (t : Tk) (r : TL) : eat t (t :: r) = some r := by simp [eat]
theorem isAt_self (t : Tk) (r : TL) : isAt t (t :: r) = true := by simp [isAt]
theorem isAt_cons (t x : Tk) (r : TL) : isAt t (x :: r) = decide (x = t) := rfl
def fol (r : TL) : Bool := isAt (op [59]) r || isAt (op [58]) r
def binq : TL → Option (Bs × TL)
  | (4, o) :: r => if binWords.contains o then some (o, r) else none
  | _ => none
def unq : TL → Option (Bs × TL)
  | (4, o) :: r => if o = [45] ∨ o = [33] ∨ o = [60, 45] then some (o, r) else none
  | _ => none
def unN (o : Bs) (a : Tr) : Tr := if o = [60, 45] then nd 33 [] [a] else nd 31 o [a]
def nameAt : TL → Option (Bs × TL)
  | (1, t) :: r => some (t, r)
  | _ => none
def pT : TL → R
  | [] => none
  | x :: r =>
    if x = op [42] then (nameAt r).map fun a => (nd 8 a.1 [], a.2)
    else if x = kwd wChan then (eat (kwd wInt) r).map fun r => (nd 7 wChan [], r)
    else if x = kwd wFunc then ((eat (op [40]) r).bind (eat (op [41]))).map fun r => (nd 7 wFunc [], r)
    else if x = op [91] then ((eat (op [93]) r).bind (eat (kwd wInt))).map fun r => (nd 7 [91, 93, 105, 110, 116] [], r)
    else some (nd 7 x.2 [], r)
mutual
def pE : Nat → TL → R
  | 0, _ => none
  | f + 1, ts => (pU f ts).bind fun a => match binq a.2 with
    | none => some a
    | some (o, r) => (pU f r).map fun b => (nd 32 o [a.1, b.1], b.2)
def pU : Nat → TL → R
  | 0, _ => none
  | f + 1, ts => match unq ts with
    | some (o, r) => (pU f r).map fun a => (unN o a.1, a.2)
    | none => pP f ts
def pP : Nat → TL → R
  | 0, _ => none
  | f + 1, ts => (pA f ts).bind fun a => pX f a.1 a.2
def pX : Nat → Tr → TL → R
  | 0, _, _ => none
  | f + 1, a, ts =>
    if isAt (op [46]) ts then (nameAt ts.tail).bind fun b => pX f (nd 28 b.1 [a]) b.2
    else if isAt (op [91]) ts then (pE f ts.tail).bind fun b => (eat (op [93]) b.2).bind fun r => pX f (nd 29 [] [a, b.1]) r
    else if isAt (op [40]) ts then (if isAt (op [41]) ts.tail then pX f (nd 30 [] [a]) ts.tail.tail else (pG f ts.tail).bind fun l => pX f (nd 30 [] (a :: l.1)) l.2)
    else some (a, ts)
def pG : Nat → TL → RL
  | 0, _ => none
  | f + 1, ts => (pE f ts).bind fun a =>
    if isAt (op [44]) a.2 then (pG f a.2.tail).map fun l => (a.1 :: l.1, l.2) else (eat (op [41]) a.2).map fun r => ([a.1], r)
def pA : Nat → TL → R
  | 0, _ => none
  | f + 1, [] => none
  | f + 1, x :: r =>
    if x.1 = 2 then some ((hb 24 [] (val x.2), .nil), r)
    else if x.1 = 1 then some (nd 27 x.2 [], r)
    else if x = op [40] then (pE f r).bind fun a => (eat (op [41]) a.2).map fun r => (a.1, r)
    else if x = kwd [116, 114, 117, 101] then some ((hb 25 [] 1, .nil), r)
    else if x = kwd [102, 97, 108, 115, 101] then some ((hb 25 [] 0, .nil), r)
    else if x = kwd [110, 105, 108] then some (nd 26 [] [], r)
    else if x = kwd [110, 101, 119] then (eat (op [40]) r).bind fun r => (nameAt r).bind fun b => (eat (op [41]) b.2).map fun r => (nd 34 b.1 [], r)
    else if x = kwd [108, 101, 110] then (eat (op [40]) r).bind fun r => (pE f r).bind fun a => (eat (op [41]) a.2).map fun r => (nd 37 [] [a.1], r)
    else if x = kwd [109, 97, 107, 101] then (eat (op [40]) r).bind fun r =>
      if isAt (op [91]) r then ((((eat (op [91]) r).bind (eat (op [93]))).bind (eat (kwd wInt))).bind (eat (op [44]))).bind fun r => (pE f r).bind fun a => (eat (op [41]) a.2).map fun r => (nd 35 [] [a.1], r)
      else (((eat (kwd wChan) r).bind (eat (kwd wInt))).bind (eat (op [44]))).bind fun r => (pE f r).bind fun a => (eat (op [41]) a.2).map fun r => (nd 36 [] [a.1], r)
    else if x = kwd wFunc then ((eat (op [40]) r).bind (eat (op [41]))).bind fun r => (pB f r).map fun b => (nd 38 [] [b.1], b.2)
    else none
def pB : Nat → TL → R
  | 0, _ => none
  | f + 1, ts => (eat (op [123]) ts).bind fun r => (pL f r).bind fun l => (eat (op [125]) l.2).map fun r => (nd 10 [] l.1, r)
def pL : Nat → TL → RL
  | 0, _ => none
  | f + 1, ts => if isAt (op [125]) ts || isAt (kwd [99, 97, 115, 101]) ts || isAt (kwd [100, 101, 102, 97, 117, 108, 116]) ts then some ([], ts)
    else (pS f ts).bind fun a => (eat (op [59]) a.2).bind fun r => (pL f r).map fun l => (a.1 :: l.1, l.2)
def pS : Nat → TL → R
  | 0, _ => none
  | f + 1, ts =>
    if isAt (kwd [118, 97, 114]) ts then pV f ts.tail
    else if isAt (op [123]) ts then pB f ts
    else if isAt (kwd [103, 111]) ts then (pE f ts.tail).map fun a => (nd 14 [] [a.1], a.2)
    else if isAt (kwd [100, 101, 102, 101, 114]) ts then (pE f ts.tail).map fun a => (nd 15 [] [a.1], a.2)
    else if isAt (kwd [99, 108, 111, 115, 101]) ts then (eat (op [40]) ts.tail).bind fun r => (pE f r).bind fun a => (eat (op [41]) a.2).map fun r => (nd 17 [] [a.1], r)
    else if isAt (kwd [112, 114, 105, 110, 116]) ts then (eat (op [40]) ts.tail).bind fun r => (pE f r).bind fun a => (eat (op [41]) a.2).map fun r => (nd 21 [] [a.1], r)
    else if isAt (kwd [105, 102]) ts then pI f ts.tail
    else if isAt (kwd [102, 111, 114]) ts then (if isAt (op [123]) ts.tail then (pB f ts.tail).map fun b => (nd 19 [] [none0, b.1], b.2) else (pE f ts.tail).bind fun a => (pB f a.2).map fun b => (nd 19 [] [a.1, b.1], b.2))
    else if isAt (kwd [115, 101, 108, 101, 99, 116]) ts then (eat (op [123]) ts.tail).bind fun r => (pC f r).bind fun l => (eat (op [125]) l.2).map fun r => (nd 22 [] l.1, r)
    else if isAt (kwd [114, 101, 116, 117, 114, 110]) ts then (if fol ts.tail then some (nd 20 [] [], ts.tail) else (pE f ts.tail).map fun a => (nd 20 [] [a.1], a.2))
    else pZ f ts
def pZ : Nat → TL → R
  | 0, _ => none
  | f + 1, ts => (pE f ts).bind fun a =>
    if isAt (op [61]) a.2 then (pE f a.2.tail).map fun b => (nd 12 [] [a.1, b.1], b.2)
    else if isAt (op [58, 61]) a.2 then (pE f a.2.tail).map fun b => (nd 11 a.1.1.text.data.toList [b.1], b.2)
    else if isAt (op [60, 45]) a.2 then (pE f a.2.tail).map fun b => (nd 16 [] [a.1, b.1], b.2)
    else some (nd 13 [] [a.1], a.2)
def pV : Nat → TL → R
  | 0, _ => none
  | f + 1, ts => (nameAt ts).bind fun b => (pT b.2).bind fun y => if isAt (op [61]) y.2 then (pE f y.2.tail).map fun a => (nd 6 b.1 [y.1, a.1], a.2) else some (nd 6 b.1 [y.1, none0], y.2)
def pI : Nat → TL → R
  | 0, _ => none
  | f + 1, ts => (pE f ts).bind fun a => (pB f a.2).bind fun b =>
    if isAt (kwd [101, 108, 115, 101]) b.2 then (if isAt (kwd [105, 102]) b.2.tail then pI f b.2.tail.tail else pB f b.2.tail).map fun c => (nd 18 [] [a.1, b.1, c.1], c.2)
    else some (nd 18 [] [a.1, b.1, none0], b.2)
def pC : Nat → TL → RL
  | 0, _ => none
  | f + 1, ts =>
    if isAt (kwd [100, 101, 102, 97, 117, 108, 116]) ts then (eat (op [58]) ts.tail).bind fun r => (pL f r).bind fun l => (pC f l.2).map fun m => (nd 23 [] [none0, nd 10 [] l.1] :: m.1, m.2)
    else if isAt (kwd [99, 97, 115, 101]) ts then (pS f ts.tail).bind fun a => (eat (op [58]) a.2).bind fun r => (pL f r).bind fun l => (pC f l.2).map fun m => (nd 23 [] [a.1, nd 10 [] l.1] :: m.1, m.2)
    else some ([], ts)
end
def pF : Nat → TL → RL
  | 0, _ => none
  | f + 1, ts => if isAt (op [125]) ts then some ([], ts)
    else (nameAt ts).bind fun b => (pT b.2).bind fun y => (eat (op [59]) y.2).bind fun r => (pF f r).map fun l => (nd 3 b.1 [y.1] :: l.1, l.2)
def pM : Nat → TL → RL
  | 0, _ => none
  | f + 1, ts => (nameAt ts).bind fun b => (pT b.2).bind fun y => if isAt (op [44]) y.2 then (pM f y.2.tail).map fun l => (nd 3 b.1 [y.1] :: l.1, l.2) else some ([nd 3 b.1 [y.1]], y.2)
def pD (f : Nat) (ts : TL) : R :=
  if isAt (kwd [118, 97, 114]) ts then pV f ts.tail
  else if isAt (kwd [116, 121, 112, 101]) ts then (nameAt ts.tail).bind fun b => ((eat (kwd [115, 116, 114, 117, 99, 116]) b.2).bind (eat (op [123]))).bind fun r => (pF f r).bind fun l => (eat (op [125]) l.2).map fun r => (nd 2 b.1 l.1, r)
  else (nameAt ts.tail).bind fun b => (eat (op [40]) b.2).bind fun r => (if isAt (op [41]) r then some ([], r) else pM f r).bind fun l => (eat (op [41]) l.2).bind fun r =>
    (if isAt (op [123]) r then some (none0, r) else pT r).bind fun y => (pB f y.2).map fun b2 => (nd 4 b.1 [nd 5 [] l.1, y.1, b2.1], b2.2)
def pFile : Nat → TL → Option (List Tr)
  | 0, _ => none
  | f + 1, [] => some []
  | f + 1, x :: r => (pD f (x :: r)).bind fun a => (eat (op [59]) a.2).bind fun r => (pFile f r).map fun l => a.1 :: l

/-! ### trees without annotations -/
def sT (h : Hd) (k : Fo) : Tr := (bare h, k.strip)
def trs : Fo → List Tr
  | .nil => []
  | .cons h k r => sT h k :: trs r
theorem of_trs : ∀ F : Fo, Fo.of (trs F) = F.strip
  | .nil => rfl
  | .cons h k r => by show Fo.cons _ _ (Fo.of (trs r)) = _; rw [of_trs r]; rfl
theorem bt (t : ByteArray) : (⟨t.data.toList.toArray⟩ : ByteArray) = t := by cases t; simp
theorem sT_nd {kd : Int} {t : ByteArray} {nu p tk : Int} {tn : ByteArray} {r u : Int} {k : Fo} (hc : counts ⟨kd, t, nu, p, tk, tn, r, u⟩ = false) : sT ⟨kd, t, nu, p, tk, tn, r, u⟩ k = nd kd t.data.toList (trs k) := by
  unfold sT nd hb
  rw [of_trs, bt]
  unfold bare
  rw [hc]
  rfl
theorem bnil {t : ByteArray} (h : (t.data.toList == []) = true) : t.data.toList = [] := by simpa using h
end Go.Proofs.YticbcnhbpbaocaaGreatDoor.Z

set_option linter.all false
namespace Go.Proofs.YticbcnhbpbaocaaGreatDoor.Z
open M T T.Fo

/-! ### what tokens begin with -/
def okE (x : Tk) : Bool := x.1 == 1 || x.1 == 2 || [kwd [116, 114, 117, 101], kwd [102, 97, 108, 115, 101], kwd [110, 105, 108], kwd [110, 101, 119], kwd [109, 97, 107, 101], kwd [108, 101, 110], kwd wFunc, op [40], op [45], op [33], op [60, 45]].contains x
def hdP (p : Tk → Bool) (L : TL) : Prop := ∃ x t, L = x :: t ∧ p x = true
theorem hdP.app {p : Tk → Bool} {L r : TL} (h : hdP p L) : hdP p (L ++ r) := by obtain ⟨x, t, rfl, h⟩ := h; exact ⟨x, t ++ r, rfl, h⟩
theorem isAt_no {p : Tk → Bool} {c : Tk} {L : TL} (hc : p c = false) (h : hdP p L) (r : TL) : isAt c (L ++ r) = false := by
  obtain ⟨x, t, rfl, h⟩ := h
  show decide (x = c) = false
  rw [decide_eq_false_iff_not]
  rintro rfl
  rw [hc] at h; cases h
/-- No suffix follows. -/
def sx (r : TL) : Bool := isAt (op [46]) r || isAt (op [91]) r || isAt (op [40]) r
theorem pX_stop {f : Nat} {a : Tr} {r : TL} (h : sx r = false) : pX (f + 1) a r = some (a, r) := by
  unfold sx at h
  simp only [Bool.or_eq_false_iff] at h
  obtain ⟨⟨h1, h2⟩, h3⟩ := h
  rw [pX, if_neg (by rw [h1]; simp), if_neg (by rw [h2]; simp), if_neg (by rw [h3]; simp)]
def N (k : Fo) : Nat := 16 * k.cnt
def EP (h : Hd) (k : Fo) : Prop := ∀ f r, N k + 8 ≤ f → sx r = false → binq r = none → pE f ((tcT h k).ex ++ r) = some (sT h k, r)
def UP (h : Hd) (k : Fo) : Prop := ∀ f r, N k + 12 ≤ f → sx r = false → pU f (opdK (tcT h k) ++ r) = some (sT h k, r)
def BX (h : Hd) (k : Fo) : Prop := ∀ r, unq ((tcT h k).ex ++ r) = none ∧ ∀ g f, N k + 4 + g ≤ f → ∃ f', g ≤ f' ∧ pP f ((tcT h k).ex ++ r) = pX f' (sT h k) r
def BP (h : Hd) (k : Fo) : Prop := ∀ r, unq (baseK (tcT h k) ++ r) = none ∧ ∀ g f, N k + 12 + g ≤ f → ∃ f', g ≤ f' ∧ pP f (baseK (tcT h k) ++ r) = pX f' (sT h k) r
structure EQ (h : Hd) (k : Fo) : Prop where
  e : EP h k
  u : UP h k
  b : BP h k
  hd : hdP okE (tcT h k).ex
/-- In parentheses. -/
theorem par_b {h : Hd} {k : Fo} (e : EP h k) : ∀ r, unq ([op [40]] ++ (tcT h k).ex ++ [op [41]] ++ r) = none ∧ ∀ g f, N k + 12 + g ≤ f → ∃ f', g ≤ f' ∧ pP f ([op [40]] ++ (tcT h k).ex ++ [op [41]] ++ r) = pX f' (sT h k) r := by
  intro r
  refine ⟨rfl, fun g f hf => ?_⟩
  obtain ⟨f1, rfl⟩ : ∃ f1, f = f1 + 2 := ⟨f - 2, by omega⟩
  refine ⟨f1 + 1, by omega, ?_⟩
  have h1 := e f1 (op [41] :: r) (by omega) rfl rfl
  have e1 : [op [40]] ++ (tcT h k).ex ++ [op [41]] ++ r = op [40] :: ((tcT h k).ex ++ (op [41] :: r)) := by simp
  rw [e1, pP, pA, if_neg (by decide), if_neg (by decide), if_pos rfl, h1]
  simp only [Option.bind_some, eat_self, Option.map_some]
theorem EQ.ofX {h : Hd} {k : Fo} (h32 : (h.kind == 32) = false) (h31 : (h.kind == 31) = false) (h33 : (h.kind == 33) = false) (x : BX h k) (hd : hdP okE (tcT h k).ex) : EQ h k := by
  have hu : ∀ f r, N k + 6 ≤ f → sx r = false → pU f ((tcT h k).ex ++ r) = some (sT h k, r) := fun f r hf hs => by
    obtain ⟨f1, rfl⟩ : ∃ f1, f = f1 + 1 := ⟨f - 1, by omega⟩
    obtain ⟨a, b⟩ := x r
    obtain ⟨f', h1, h2⟩ := b 1 f1 (by omega)
    obtain ⟨f2, rfl⟩ : ∃ f2, f' = f2 + 1 := ⟨f' - 1, by omega⟩
    rw [pU, a, h2, pX_stop hs]
  refine ⟨fun f r hf hs hb => ?_, fun f r hf hs => ?_, fun r => ?_, hd⟩
  · obtain ⟨f1, rfl⟩ : ∃ f1, f = f1 + 1 := ⟨f - 1, by omega⟩
    rw [pE, hu f1 r (by omega) hs]
    simp [hb]
  · have e : opdK (tcT h k) = (tcT h k).ex := by unfold opdK; rw [tcT_h, h32]; rfl
    rw [e]; exact hu f r (by omega) hs
  · have e : baseK (tcT h k) = (tcT h k).ex := by unfold baseK; rw [tcT_h, h32, h31, h33]; rfl
    rw [e]
    exact ⟨(x r).1, fun g f hf => (x r).2 g f (by omega)⟩
theorem unq_head {o : Bs} (ho : o = [45] ∨ o = [33] ∨ o = [60, 45]) (r : TL) : unq (op o :: r) = some (o, r) := by
  show (if o = [45] ∨ o = [33] ∨ o = [60, 45] then some (o, r) else none) = _
  rw [if_pos ho]
/-- An operator before an operand. -/
theorem EQ.ofU {h h0 : Hd} {k0 : Fo} {o : Bs} (ho : o = [45] ∨ o = [33] ∨ o = [60, 45]) (h32 : (h.kind == 32) = false) (h31 : (h.kind == 31 || h.kind == 33) = true) (et : (tcT h (.cons h0 k0 .nil)).ex = [op o] ++ opdK (tcT h0 k0)) (es : sT h (.cons h0 k0 .nil) = unN o (sT h0 k0)) (q : EQ h0 k0) : EQ h (.cons h0 k0 .nil) := by
  have hN : N (.cons h0 k0 .nil) = N k0 + 16 := by simp only [N, Fo.cnt]; omega
  have hu : ∀ f r, N k0 + 14 ≤ f → sx r = false → pU f ((tcT h (.cons h0 k0 .nil)).ex ++ r) = some (sT h (.cons h0 k0 .nil), r) := fun f r hf hs => by
    obtain ⟨f1, rfl⟩ : ∃ f1, f = f1 + 1 := ⟨f - 1, by omega⟩
    rw [et, show [op o] ++ opdK (tcT h0 k0) ++ r = op o :: (opdK (tcT h0 k0) ++ r) by simp, pU, unq_head ho]
    simp only
    rw [q.u f1 r (by omega) hs, es]
    rfl
  have e : EP h (.cons h0 k0 .nil) := fun f r hf hs hb => by
    obtain ⟨f1, rfl⟩ : ∃ f1, f = f1 + 1 := ⟨f - 1, by omega⟩
    rw [pE, hu f1 r (by omega) hs]
    simp [hb]
  refine ⟨e, fun f r hf hs => ?_, fun r => ?_, ?_⟩
  · have e2 : opdK (tcT h (.cons h0 k0 .nil)) = (tcT h (.cons h0 k0 .nil)).ex := by unfold opdK; rw [tcT_h, h32]; rfl
    rw [e2]; exact hu f r (by omega) hs
  · have e2 : baseK (tcT h (.cons h0 k0 .nil)) = [op [40]] ++ (tcT h (.cons h0 k0 .nil)).ex ++ [op [41]] := by
      unfold baseK; rw [tcT_h, h32, Bool.false_or, h31]; rfl
    rw [e2]; exact par_b e r
  · rw [et]
    refine ⟨op o, opdK (tcT h0 k0), rfl, ?_⟩
    rcases ho with rfl | rfl | rfl <;> decide
theorem trs1 (h0 : Hd) (k0 : Fo) : trs (.cons h0 k0 .nil) = [sT h0 k0] := rfl
theorem trs2 (h0 h1 : Hd) (k0 k1 : Fo) : trs (.cons h0 k0 (.cons h1 k1 .nil)) = [sT h0 k0, sT h1 k1] := rfl
theorem trs3 (h0 h1 h2 : Hd) (k0 k1 k2 : Fo) : trs (.cons h0 k0 (.cons h1 k1 (.cons h2 k2 .nil))) = [sT h0 k0, sT h1 k1, sT h2 k2] := rfl
theorem N1 (h0 : Hd) (k0 : Fo) : N (.cons h0 k0 .nil) = N k0 + 16 := by simp only [N, Fo.cnt]; omega
theorem N2 (h0 h1 : Hd) (k0 k1 : Fo) : N (.cons h0 k0 (.cons h1 k1 .nil)) = N k0 + N k1 + 32 := by simp only [N, Fo.cnt]; omega
theorem Nc (h0 : Hd) (k0 r : Fo) : N (.cons h0 k0 r) = N k0 + N r + 16 := by simp only [N, Fo.cnt]; omega
/-- Arguments. -/
theorem pG_any : ∀ (F : Fo) (h0 : Hd) (k0 : Fo) (r : TL), EP h0 k0 → F.All EP → ∀ f, N (.cons h0 k0 F) + 1 ≤ f → pG f (commaK ((tcT h0 k0).ex :: (tcF F).map (·.ex)) ++ [op [41]] ++ r) = some (sT h0 k0 :: trs F, r)
  | .nil, h0, k0, r, e, _, f, hf => by
    rw [Nc] at hf
    obtain ⟨f1, rfl⟩ : ∃ f1, f = f1 + 1 := ⟨f - 1, by omega⟩
    have h1 := e f1 ([op [41]] ++ r) (by omega) rfl rfl
    rw [pG, show commaK ((tcT h0 k0).ex :: (tcF .nil).map (·.ex)) ++ [op [41]] ++ r = (tcT h0 k0).ex ++ ([op [41]] ++ r) by simp [tcF, commaK], h1]
    simp [isAt, eat, trs]
  | .cons h1 k1 F, h0, k0, r, e, hF, f, hf => by
    rw [Nc] at hf
    obtain ⟨f1, rfl⟩ : ∃ f1, f = f1 + 1 := ⟨f - 1, by omega⟩
    have h2 := e f1 (op [44] :: (commaK ((tcT h1 k1).ex :: (tcF F).map (·.ex)) ++ [op [41]] ++ r)) (by omega) rfl rfl
    have h3 := pG_any F h1 k1 r hF.1 hF.2 f1 (by omega)
    rw [pG, show commaK ((tcT h0 k0).ex :: (tcF (.cons h1 k1 F)).map (·.ex)) ++ [op [41]] ++ r = (tcT h0 k0).ex ++ (op [44] :: (commaK ((tcT h1 k1).ex :: (tcF F).map (·.ex)) ++ [op [41]] ++ r)) by rw [tcF_cons]; simp [commaK], h2]
    simp only [Option.bind_some, isAt_self, if_true, List.tail_cons]
    rw [h3]
    rfl
end Go.Proofs.YticbcnhbpbaocaaGreatDoor.Z

set_option linter.all false
namespace Go.Proofs.YticbcnhbpbaocaaGreatDoor.Z
open M T T.Fo

def okS (x : Tk) : Bool := okE x || [kwd [118, 97, 114], op [123], kwd [103, 111], kwd [100, 101, 102, 101, 114], kwd [99, 108, 111, 115, 101], kwd [112, 114, 105, 110, 116], kwd [105, 102], kwd [102, 111, 114], kwd [115, 101, 108, 101, 99, 116], kwd [114, 101, 116, 117, 114, 110]].contains x
def stop (r : TL) : Bool := isAt (op [125]) r || isAt (kwd [99, 97, 115, 101]) r || isAt (kwd [100, 101, 102, 97, 117, 108, 116]) r
structure PQ (h : Hd) (k : Fo) : Prop where
  ex : exprK h.kind = true → EQ h k
  st : stmtK h.kind = true → ∀ f r, N k + 16 ≤ f → fol r = true → pS f ((tcT h k).st ++ r) = some (sT h k, r)
  hs : stmtK h.kind = true → hdP okS (tcT h k).st
  bl : h.kind = 10 → ∀ f r, N k + 4 ≤ f → pB f (blkK (tcT h k).ls ++ r) = some (sT h k, r)
  ln : h.kind = 10 → ∀ f r, N k + 1 ≤ f → stop r = true → pL f ((tcT h k).ls ++ r) = some (trs k, r)
  fi : h.kind = 18 → ∃ L, (tcT h k).st = kwd [105, 102] :: L ∧ ∀ f r, N k + 12 ≤ f → fol r = true → pI f (L ++ r) = some (sT h k, r)
  cs : h.kind = 23 → ∀ f r, N k + 10 ≤ f → stop r = true → pC (f + 1) ((tcT h k).st ++ r) = (pC f r).map fun m => (sT h k :: m.1, m.2)
def PZ (h : Hd) (k : Fo) : Prop := Gz h k → PQ h k
theorem Gz.pz {h : Hd} {k : Fo} (g : Gz h k) (H : k.All PZ) : k.All fun h k => PQ h k ∧ Gz h k := aimp (fun h k hh => ⟨hh.1 hh.2, hh.2⟩) (all_and H g.kids)
theorem hd1 {p : Tk → Bool} {x : Tk} (h : p x = true) (L : TL) : hdP p (x :: L) := ⟨x, L, rfl, h⟩
theorem hdb {h : Hd} {k : Fo} (q : EQ h k) : hdP okE (baseK (tcT h k)) := by
  unfold baseK parK
  split
  · exact hd1 (by decide) _
  · exact q.hd
theorem hdo {h : Hd} {k : Fo} (q : EQ h k) : hdP okE (opdK (tcT h k)) := by
  unfold opdK parK
  split
  · exact hd1 (by decide) _
  · exact q.hd
/-- An atom. -/
theorem BX.atom {h : Hd} {k : Fo} {L : TL} {o : Nat} {t : Bs} (et : (tcT h k).ex = (o, t) :: L) (hu : ∀ r, unq ((o, t) :: r) = none) (H : ∀ f r, N k + 2 ≤ f → pA f ((o, t) :: L ++ r) = some (sT h k, r)) : BX h k := by
  intro r
  rw [et]
  refine ⟨hu _, fun g f hf => ?_⟩
  obtain ⟨f1, rfl⟩ : ∃ f1, f = f1 + 1 := ⟨f - 1, by omega⟩
  refine ⟨f1, by omega, ?_⟩
  rw [pP, H f1 r (by omega)]
  rfl
theorem unq3 (w : Bs) (r : TL) : unq (kwd w :: r) = none := rfl
theorem ex_zq {h : Hd} {k : Fo} (he : exprK h.kind = true) (g : Gz h k) (H : k.All PZ) : EQ h k := by
  have hc := g.parts.2.2.1
  have ht := g.parts.1
  have hnf := g.parts.2.1
  have R := g.pz H
  obtain ⟨kd, t, nu, p, tk, tn, r, u⟩ := h
  simp only [exprK, Bool.or_eq_true, beq_iff_eq] at he
  rcases he with (((((((((((((rfl | rfl) | rfl) | rfl) | rfl) | rfl) | rfl) | rfl) | rfl) | rfl) | rfl) | rfl) | rfl) | rfl) | rfl
  · -- 28
    simp [childrenFit, places] at hc
    obtain ⟨h0, k0, rfl, q0⟩ := fits_one hc
    have q := R.1.1.ex q0
    refine EQ.ofX rfl rfl rfl (fun r2 => ?_) ((hdb q).app.app)
    have B := q.b (op [46] :: (1, t.data.toList) :: r2)
    have e : (tcT ⟨28, t, nu, p, tk, tn, r, u⟩ (.cons h0 k0 .nil)).ex ++ r2 = baseK (tcT h0 k0) ++ (op [46] :: (1, t.data.toList) :: r2) := by
      show baseK (tcT h0 k0) ++ [op [46]] ++ [(1, t.data.toList)] ++ r2 = _
      simp
    rw [e, sT_nd rfl, trs1]
    refine ⟨B.1, fun g f hf => ?_⟩
    rw [N1] at hf
    obtain ⟨f', h1, h2⟩ := B.2 (g + 1) f (by omega)
    obtain ⟨f2, rfl⟩ : ∃ f2, f' = f2 + 1 := ⟨f' - 1, by omega⟩
    refine ⟨f2, by omega, ?_⟩
    rw [h2, pX, if_pos (isAt_self _ _)]
    rfl
  · -- 29
    simp [childrenFit, places] at hc
    obtain ⟨h0, k0, h1, k1, rfl, q0, q1⟩ := fits_two hc
    have q := R.1.1.ex q0
    have qe := R.2.1.1.ex q1
    have htx : t.data.toList = [] := bnil ht
    refine EQ.ofX rfl rfl rfl (fun r2 => ?_) ((hdb q).app.app.app)
    have B := q.b (op [91] :: ((tcT h1 k1).ex ++ op [93] :: r2))
    have e : (tcT ⟨29, t, nu, p, tk, tn, r, u⟩ (.cons h0 k0 (.cons h1 k1 .nil))).ex ++ r2 = baseK (tcT h0 k0) ++ (op [91] :: ((tcT h1 k1).ex ++ op [93] :: r2)) := by
      show baseK (tcT h0 k0) ++ [op [91]] ++ (tcT h1 k1).ex ++ [op [93]] ++ r2 = _
      simp
    rw [e, sT_nd rfl, trs2, htx]
    refine ⟨B.1, fun g f hf => ?_⟩
    rw [N2] at hf
    obtain ⟨f', a1, a2⟩ := B.2 (N k1 + 9 + g) f (by omega)
    obtain ⟨f2, rfl⟩ : ∃ f2, f' = f2 + 1 := ⟨f' - 1, by omega⟩
    refine ⟨f2, by omega, ?_⟩
    have E := qe.e f2 (op [93] :: r2) (by omega) rfl rfl
    rw [a2, pX, if_neg (by rw [isAt_cons]; decide), if_pos (isAt_self _ _), List.tail_cons, E]
    simp only [Option.bind_some, eat_self]
  · -- 30
    simp [childrenFit, places] at hc
    obtain ⟨hm, hA⟩ := fits_rep hc
    have htx : t.data.toList = [] := bnil ht
    cases k with
    | nil => simp [Fo.len] at hm
    | cons h0 k0 F =>
      have q := R.1.1.ex hA.1
      have hE : F.All fun h k => EQ h k := aimp (fun h k hh => hh.1.1.ex hh.2) (all_and R.2 hA.2)
      refine EQ.ofX rfl rfl rfl (fun r2 => ?_) ((hdb q).app.app.app)
      have e : (tcT ⟨30, t, nu, p, tk, tn, r, u⟩ (.cons h0 k0 F)).ex ++ r2 = baseK (tcT h0 k0) ++ (op [40] :: (commaK ((tcF F).map (·.ex)) ++ op [41] :: r2)) := by
        show baseK (tcT h0 k0) ++ [op [40]] ++ commaK ((tcF F).map (·.ex)) ++ [op [41]] ++ r2 = _
        simp
      have B := q.b (op [40] :: (commaK ((tcF F).map (·.ex)) ++ op [41] :: r2))
      rw [e, sT_nd rfl, htx]
      refine ⟨B.1, fun g f hf => ?_⟩
      rw [Nc] at hf
      obtain ⟨f', a1, a2⟩ := B.2 (N F + 2 + g) f (by omega)
      obtain ⟨f2, rfl⟩ : ∃ f2, f' = f2 + 1 := ⟨f' - 1, by omega⟩
      refine ⟨f2, by omega, ?_⟩
      rw [a2, pX, if_neg (by rw [isAt_cons]; decide), if_neg (by rw [isAt_cons]; decide), if_pos (isAt_self _ _), List.tail_cons]
      cases F with
      | nil =>
        rw [if_pos (by rfl)]
        rfl
      | cons h1 k1 F =>
        have G := pG_any F h1 k1 r2 hE.1.e (aimp (fun h k q => q.e) hE.2) f2 (by omega)
        have hh : isAt (op [41]) (commaK ((tcF (.cons h1 k1 F)).map (·.ex)) ++ op [41] :: r2) = false := by
          refine isAt_no (p := okE) (by decide) ?_ _
          rw [tcF_cons]
          cases F with
          | nil => exact hE.1.hd
          | cons h2 k2 F => exact (hE.1.hd.app (r := [op [44]])).app
        rw [if_neg (by rw [hh]; simp), show commaK ((tcF (.cons h1 k1 F)).map (·.ex)) ++ op [41] :: r2 = commaK ((tcT h1 k1).ex :: (tcF F).map (·.ex)) ++ [op [41]] ++ r2 by rw [tcF_cons]; simp, G]
        rfl
  · -- 31
    simp [childrenFit, places] at hc
    obtain ⟨h0, k0, rfl, q0⟩ := fits_one hc
    have q := R.1.1.ex q0
    have h2 : (t.data.toList == [45] || t.data.toList == [33]) = true := ht
    simp only [Bool.or_eq_true, beq_iff_eq] at h2
    refine EQ.ofU (o := t.data.toList) (by rcases h2 with e | e; exact .inl e; exact .inr (.inl e)) rfl rfl rfl ?_ q
    rw [sT_nd rfl, trs1]
    unfold unN
    rw [if_neg (by rcases h2 with e | e <;> rw [e] <;> decide)]
  · -- 32
    simp [childrenFit, places] at hc
    obtain ⟨h0, k0, h1, k1, rfl, q0, q1⟩ := fits_two hc
    have qa := R.1.1.ex q0
    have qb := R.2.1.1.ex q1
    have h2 : T.isBinary t = true := ht
    have h3 : binWords.contains t.data.toList = true := h2
    have et : (tcT ⟨32, t, nu, p, tk, tn, r, u⟩ (.cons h0 k0 (.cons h1 k1 .nil))).ex = opdK (tcT h0 k0) ++ [op t.data.toList] ++ opdK (tcT h1 k1) := rfl
    have h4 : t.data.toList ∈ binWords := by simpa using h3
    have e : EP ⟨32, t, nu, p, tk, tn, r, u⟩ (.cons h0 k0 (.cons h1 k1 .nil)) := fun f r2 hf hs hb => by
      rw [N2] at hf
      obtain ⟨f1, rfl⟩ : ∃ f1, f = f1 + 1 := ⟨f - 1, by omega⟩
      have hsx : sx (op t.data.toList :: (opdK (tcT h1 k1) ++ r2)) = false := by
        simp only [binWords, List.mem_cons, List.not_mem_nil, or_false] at h4
        simp only [sx, isAt_cons]
        rcases h4 with e | e | e | e | e | e | e | e | e | e | e | e | e <;> rw [e] <;> rfl
      have A := qa.u f1 (op t.data.toList :: (opdK (tcT h1 k1) ++ r2)) (by omega) hsx
      have B := qb.u f1 r2 (by omega) hs
      have hbq : binq (op t.data.toList :: (opdK (tcT h1 k1) ++ r2)) = some (t.data.toList, opdK (tcT h1 k1) ++ r2) := by
        show (if binWords.contains t.data.toList then some _ else none) = _
        rw [if_pos h3]
      rw [et, pE, show opdK (tcT h0 k0) ++ [op t.data.toList] ++ opdK (tcT h1 k1) ++ r2 = opdK (tcT h0 k0) ++ (op t.data.toList :: (opdK (tcT h1 k1) ++ r2)) by simp, A]
      simp only [Option.bind_some, hbq]
      rw [B, sT_nd (kd := 32) (t := t) rfl, trs2]
      rfl
    have eb : baseK (tcT ⟨32, t, nu, p, tk, tn, r, u⟩ (.cons h0 k0 (.cons h1 k1 .nil))) = [op [40]] ++ (tcT ⟨32, t, nu, p, tk, tn, r, u⟩ (.cons h0 k0 (.cons h1 k1 .nil))).ex ++ [op [41]] := rfl
    have eo : opdK (tcT ⟨32, t, nu, p, tk, tn, r, u⟩ (.cons h0 k0 (.cons h1 k1 .nil))) = [op [40]] ++ (tcT ⟨32, t, nu, p, tk, tn, r, u⟩ (.cons h0 k0 (.cons h1 k1 .nil))).ex ++ [op [41]] := rfl
    refine ⟨e, fun f r2 hf hs => ?_, fun r2 => by rw [eb]; exact par_b e r2, by rw [et]; exact (hdo qa).app.app⟩
    obtain ⟨f1, rfl⟩ : ∃ f1, f = f1 + 4 := ⟨f - 4, by omega⟩
    have E := e f1 (op [41] :: r2) (by omega) rfl rfl
    rw [eo, show [op [40]] ++ (tcT ⟨32, t, nu, p, tk, tn, r, u⟩ (.cons h0 k0 (.cons h1 k1 .nil))).ex ++ [op [41]] ++ r2 = op [40] :: ((tcT ⟨32, t, nu, p, tk, tn, r, u⟩ (.cons h0 k0 (.cons h1 k1 .nil))).ex ++ op [41] :: r2) by simp]
    rw [pU, show unq (op [40] :: ((tcT ⟨32, t, nu, p, tk, tn, r, u⟩ (.cons h0 k0 (.cons h1 k1 .nil))).ex ++ op [41] :: r2)) = none from rfl]
    simp only
    rw [pP, pA, if_neg (by decide), if_neg (by decide), if_pos rfl]
    have E3 := e (f1 + 1) (op [41] :: r2) (by omega) rfl rfl
    rw [E3]
    simp only [Option.bind_some, eat_self, Option.map_some]
    exact pX_stop hs
  · -- 33
    simp [childrenFit, places] at hc
    obtain ⟨h0, k0, rfl, q0⟩ := fits_one hc
    have htx : t.data.toList = [] := bnil ht
    exact EQ.ofU (o := [60, 45]) (.inr (.inr rfl)) rfl rfl rfl (by rw [sT_nd rfl, trs1, htx]; rfl) (R.1.1.ex q0)
  · -- 35
    simp [childrenFit, places] at hc
    obtain ⟨h0, k0, rfl, q0⟩ := fits_one hc
    have htx : t.data.toList = [] := bnil ht
    have q := R.1.1.ex q0
    refine EQ.ofX rfl rfl rfl (BX.atom (o := 3) (t := [109, 97, 107, 101]) rfl (unq3 _) fun f r2 hf => ?_) (hd1 (by decide) _)
    rw [N1] at hf
    obtain ⟨f1, rfl⟩ : ∃ f1, f = f1 + 1 := ⟨f - 1, by omega⟩
    have E := q.e f1 (op [41] :: r2) (by omega) rfl rfl
    rw [sT_nd rfl, trs1, htx]
    show pA (f1 + 1) ((3, [109, 97, 107, 101]) :: ([op [40], op [91], op [93], kwd wInt, op [44]] ++ (tcT h0 k0).ex ++ [op [41]]) ++ r2) = _
    rw [show (3, [109, 97, 107, 101]) :: ([op [40], op [91], op [93], kwd wInt, op [44]] ++ (tcT h0 k0).ex ++ [op [41]]) ++ r2 = kwd [109, 97, 107, 101] :: op [40] :: op [91] :: op [93] :: kwd wInt :: op [44] :: ((tcT h0 k0).ex ++ op [41] :: r2) by simp]
    rw [pA, if_neg (by decide), if_neg (by decide), if_neg (by decide), if_neg (by decide), if_neg (by decide), if_neg (by decide), if_neg (by decide), if_neg (by decide), if_pos rfl, eat_self]
    simp only [Option.bind_some, isAt_self, if_true, eat_self, E, Option.map_some]
  · -- 36
    simp [childrenFit, places] at hc
    obtain ⟨h0, k0, rfl, q0⟩ := fits_one hc
    have htx : t.data.toList = [] := bnil ht
    have q := R.1.1.ex q0
    refine EQ.ofX rfl rfl rfl (BX.atom (o := 3) (t := [109, 97, 107, 101]) rfl (unq3 _) fun f r2 hf => ?_) (hd1 (by decide) _)
    rw [N1] at hf
    obtain ⟨f1, rfl⟩ : ∃ f1, f = f1 + 1 := ⟨f - 1, by omega⟩
    have E := q.e f1 (op [41] :: r2) (by omega) rfl rfl
    rw [sT_nd rfl, trs1, htx]
    show pA (f1 + 1) ((3, [109, 97, 107, 101]) :: ([op [40], kwd wChan, kwd wInt, op [44]] ++ (tcT h0 k0).ex ++ [op [41]]) ++ r2) = _
    rw [show (3, [109, 97, 107, 101]) :: ([op [40], kwd wChan, kwd wInt, op [44]] ++ (tcT h0 k0).ex ++ [op [41]]) ++ r2 = kwd [109, 97, 107, 101] :: op [40] :: kwd wChan :: kwd wInt :: op [44] :: ((tcT h0 k0).ex ++ op [41] :: r2) by simp]
    rw [pA, if_neg (by decide), if_neg (by decide), if_neg (by decide), if_neg (by decide), if_neg (by decide), if_neg (by decide), if_neg (by decide), if_neg (by decide), if_pos rfl, eat_self]
    simp only [Option.bind_some]
    rw [if_neg (by rw [isAt_cons]; decide)]
    simp only [Option.bind_some, eat_self, E, Option.map_some]
  · -- 37
    simp [childrenFit, places] at hc
    obtain ⟨h0, k0, rfl, q0⟩ := fits_one hc
    have htx : t.data.toList = [] := bnil ht
    have q := R.1.1.ex q0
    refine EQ.ofX rfl rfl rfl (BX.atom (o := 3) (t := [108, 101, 110]) rfl (unq3 _) fun f r2 hf => ?_) (hd1 (by decide) _)
    rw [N1] at hf
    obtain ⟨f1, rfl⟩ : ∃ f1, f = f1 + 1 := ⟨f - 1, by omega⟩
    have E := q.e f1 (op [41] :: r2) (by omega) rfl rfl
    rw [sT_nd rfl, trs1, htx]
    show pA (f1 + 1) ((3, [108, 101, 110]) :: ([op [40]] ++ (tcT h0 k0).ex ++ [op [41]]) ++ r2) = _
    rw [show (3, [108, 101, 110]) :: ([op [40]] ++ (tcT h0 k0).ex ++ [op [41]]) ++ r2 = kwd [108, 101, 110] :: op [40] :: ((tcT h0 k0).ex ++ op [41] :: r2) by simp]
    rw [pA, if_neg (by decide), if_neg (by decide), if_neg (by decide), if_neg (by decide), if_neg (by decide), if_neg (by decide), if_neg (by decide), if_pos rfl, eat_self]
    simp only [Option.bind_some, E, eat_self, Option.map_some]
  · -- 27
    simp [childrenFit, places] at hc
    obtain rfl := fits_nil hc
    refine EQ.ofX rfl rfl rfl (BX.atom (o := 1) (t := t.data.toList) rfl (fun _ => rfl) fun f r2 hf => ?_) (hd1 rfl _)
    obtain ⟨f1, rfl⟩ : ∃ f1, f = f1 + 1 := ⟨f - 1, by omega⟩
    rw [sT_nd rfl]
    rw [show (1, t.data.toList) :: [] ++ r2 = (1, t.data.toList) :: r2 by simp, pA, if_neg (by simp), if_pos rfl]
    rfl
  · -- 34
    simp [childrenFit, places] at hc
    obtain rfl := fits_nil hc
    refine EQ.ofX rfl rfl rfl (BX.atom (o := 3) (t := [110, 101, 119]) rfl (unq3 _) fun f r2 hf => ?_) (hd1 (by decide) _)
    obtain ⟨f1, rfl⟩ : ∃ f1, f = f1 + 1 := ⟨f - 1, by omega⟩
    rw [sT_nd rfl]
    show pA (f1 + 1) ((3, [110, 101, 119]) :: ([op [40]] ++ [(1, t.data.toList)] ++ [op [41]]) ++ r2) = _
    rw [show (3, [110, 101, 119]) :: ([op [40]] ++ [(1, t.data.toList)] ++ [op [41]]) ++ r2 = kwd [110, 101, 119] :: op [40] :: (1, t.data.toList) :: op [41] :: r2 by simp]
    rw [pA, if_neg (by decide), if_neg (by decide), if_neg (by decide), if_neg (by decide), if_neg (by decide), if_neg (by decide), if_pos rfl, eat_self]
    simp only [Option.bind_some, nameAt, eat_self, Option.map_some]
    rfl
  · -- 24
    simp [childrenFit, places] at hc
    obtain rfl := fits_nil hc
    have htx : t.data.toList = [] := bnil ht
    have h0 : (0 : Int) ≤ nu := by simpa [numFits] using hnf
    refine EQ.ofX rfl rfl rfl (BX.atom (o := 2) (t := digs nu.toNat) rfl (fun _ => rfl) fun f r2 hf => ?_) (hd1 rfl _)
    obtain ⟨f1, rfl⟩ : ∃ f1, f = f1 + 1 := ⟨f - 1, by omega⟩
    rw [show (2, digs nu.toNat) :: [] ++ r2 = (2, digs nu.toNat) :: r2 by simp, pA, if_pos rfl, digs_val]
    have e1 : ((nu.toNat : Nat) : Int) = nu := by omega
    have e2 : t = (⟨([] : Bs).toArray⟩ : ByteArray) := by rw [← bt t, htx]
    rw [e1]
    show some ((hb 24 [] nu, Fo.nil), r2) = some ((bare ⟨24, t, nu, p, tk, tn, r, u⟩, Fo.nil), r2)
    rw [e2]
    rfl
  · -- 25
    simp [childrenFit, places] at hc
    obtain rfl := fits_nil hc
    have htx : t.data.toList = [] := bnil ht
    have e2 : t = (⟨([] : Bs).toArray⟩ : ByteArray) := by rw [← bt t, htx]
    subst e2
    have h0 : nu = 0 ∨ nu = 1 := by simpa [numFits] using hnf
    rcases h0 with rfl | rfl
    · refine EQ.ofX rfl rfl rfl (BX.atom (o := 3) (t := [102, 97, 108, 115, 101]) rfl (unq3 _) fun f r2 hf => ?_) (hd1 (by decide) _)
      obtain ⟨f1, rfl⟩ : ∃ f1, f = f1 + 1 := ⟨f - 1, by omega⟩
      rw [show (3, [102, 97, 108, 115, 101]) :: [] ++ r2 = kwd [102, 97, 108, 115, 101] :: r2 by simp, pA, if_neg (by decide), if_neg (by decide), if_neg (by decide), if_neg (by decide), if_pos rfl]
      rfl
    · refine EQ.ofX rfl rfl rfl (BX.atom (o := 3) (t := [116, 114, 117, 101]) rfl (unq3 _) fun f r2 hf => ?_) (hd1 (by decide) _)
      obtain ⟨f1, rfl⟩ : ∃ f1, f = f1 + 1 := ⟨f - 1, by omega⟩
      rw [show (3, [116, 114, 117, 101]) :: [] ++ r2 = kwd [116, 114, 117, 101] :: r2 by simp, pA, if_neg (by decide), if_neg (by decide), if_neg (by decide), if_pos rfl]
      rfl
  · -- 26
    simp [childrenFit, places] at hc
    obtain rfl := fits_nil hc
    have htx : t.data.toList = [] := bnil ht
    refine EQ.ofX rfl rfl rfl (BX.atom (o := 3) (t := [110, 105, 108]) rfl (unq3 _) fun f r2 hf => ?_) (hd1 (by decide) _)
    obtain ⟨f1, rfl⟩ : ∃ f1, f = f1 + 1 := ⟨f - 1, by omega⟩
    rw [sT_nd rfl, htx]
    show pA (f1 + 1) ((3, [110, 105, 108]) :: [] ++ r2) = _
    rw [show (3, [110, 105, 108]) :: [] ++ r2 = kwd [110, 105, 108] :: r2 by simp, pA, if_neg (by decide), if_neg (by decide), if_neg (by decide), if_neg (by decide), if_neg (by decide), if_pos rfl]
    rfl
  · -- 38
    simp [childrenFit, places] at hc
    obtain ⟨h0, k0, rfl, q0⟩ := fits_one hc
    have htx : t.data.toList = [] := bnil ht
    have e0 := one_kind q0
    simp at e0
    refine EQ.ofX rfl rfl rfl (BX.atom (o := 3) (t := wFunc) rfl (unq3 _) fun f r2 hf => ?_) (hd1 (by decide) _)
    rw [N1] at hf
    obtain ⟨f1, rfl⟩ : ∃ f1, f = f1 + 1 := ⟨f - 1, by omega⟩
    have E := R.1.1.bl e0 f1 r2 (by omega)
    rw [sT_nd rfl, trs1, htx]
    show pA (f1 + 1) ((3, wFunc) :: ([op [40], op [41]] ++ blkK (tcT h0 k0).ls) ++ r2) = _
    rw [show (3, wFunc) :: ([op [40], op [41]] ++ blkK (tcT h0 k0).ls) ++ r2 = kwd wFunc :: op [40] :: op [41] :: (blkK (tcT h0 k0).ls ++ r2) by simp]
    rw [pA, if_neg (by decide), if_neg (by decide), if_neg (by decide), if_neg (by decide), if_neg (by decide), if_neg (by decide), if_neg (by decide), if_neg (by decide), if_neg (by decide), if_pos rfl]
    simp only [eat_self, Option.bind_some, E, Option.map_some]
end Go.Proofs.YticbcnhbpbaocaaGreatDoor.Z

set_option linter.all false
namespace Go.Proofs.YticbcnhbpbaocaaGreatDoor.Z
open M T T.Fo

theorem fol_cases {r : TL} (h : fol r = true) : ∃ t, r = op [59] :: t ∨ r = op [58] :: t := by
  cases r with
  | nil => simp [fol, isAt] at h
  | cons x t =>
    simp only [fol, isAt_cons, Bool.or_eq_true, decide_eq_true_eq] at h
    rcases h with rfl | rfl
    · exact ⟨t, .inl rfl⟩
    · exact ⟨t, .inr rfl⟩
theorem fol_sx {r : TL} (h : fol r = true) : sx r = false ∧ binq r = none ∧ isAt (op [61]) r = false ∧ isAt (op [58, 61]) r = false ∧ isAt (op [60, 45]) r = false ∧ isAt (kwd [101, 108, 115, 101]) r = false := by
  obtain ⟨t, rfl | rfl⟩ := fol_cases h <;> exact ⟨rfl, rfl, rfl, rfl, rfl, rfl⟩
theorem pT_any {h : Hd} {k : Fo} (hk : T.typeK h.kind = true) (g : Gz h k) (r : TL) : pT (Z.typeK h ++ r) = some (sT h k, r) := by
  have hc := g.parts.2.2.1
  have ht := g.parts.1
  simp only [T.typeK, Bool.or_eq_true, beq_iff_eq] at hk
  obtain ⟨kd, t, nu, p, tk, tn, rf, u⟩ := h
  rcases hk with e | e
  · obtain rfl : kd = 7 := e
    simp [childrenFit, places] at hc
    obtain rfl := fits_nil hc
    have h1 : T.isTypeText t = true := ht
    have h2 : t.data.toList ∈ typeWords := by simpa [T.isTypeText] using h1
    simp only [typeWords, List.mem_cons, List.not_mem_nil, or_false] at h2
    rw [sT_nd rfl]
    unfold Z.typeK
    rcases h2 with e | e | e | e | e | e | e | e | e | e <;> simp only [e] <;> rfl
  · obtain rfl : kd = 8 := e
    simp [childrenFit, places] at hc
    obtain rfl := fits_nil hc
    rw [sT_nd rfl]
    rfl
theorem none_any {h : Hd} {k : Fo} (hk : h.kind = 9) (g : Gz h k) : sT h k = none0 := by
  have hc := g.parts.2.2.1
  have ht := g.parts.1
  obtain ⟨kd, t, nu, p, tk, tn, rf, u⟩ := h
  obtain rfl : kd = 9 := hk
  simp [childrenFit, places] at hc
  obtain rfl := fits_nil hc
  have htx : t.data.toList = [] := bnil ht
  rw [sT_nd rfl, htx]; rfl
/-- Lines of statements. -/
theorem pL_any : ∀ (F : Fo), (F.All fun h k => stmtK h.kind = true ∧ PQ h k) → ∀ f r, N F + 1 ≤ f → stop r = true → pL f (linesK (tcF F) ++ r) = some (trs F, r)
  | .nil, _, f, r, hf, hs => by
    obtain ⟨f1, rfl⟩ : ∃ f1, f = f1 + 1 := ⟨f - 1, by omega⟩
    have hs' : (isAt (op [125]) r || isAt (kwd [99, 97, 115, 101]) r || isAt (kwd [100, 101, 102, 97, 117, 108, 116]) r) = true := hs
    rw [pL, show linesK (tcF .nil) ++ r = r from rfl, if_pos hs']
    rfl
  | .cons h k R, hF, f, r, hf, hs => by
    rw [Nc] at hf
    obtain ⟨f1, rfl⟩ : ∃ f1, f = f1 + 1 := ⟨f - 1, by omega⟩
    have S := hF.1.2.st hF.1.1 f1 (op [59] :: (linesK (tcF R) ++ r)) (by omega) rfl
    have L := pL_any R hF.2 f1 r (by omega) hs
    have hd := hF.1.2.hs hF.1.1
    rw [pL, show linesK (tcF (.cons h k R)) ++ r = (tcT h k).st ++ (op [59] :: (linesK (tcF R) ++ r)) by rw [tcF_cons]; simp [linesK, lineK]]
    rw [isAt_no (p := okS) (by decide) hd, isAt_no (p := okS) (by decide) hd, isAt_no (p := okS) (by decide) hd, if_neg (by simp), S]
    simp only [Option.bind_some, eat_self, L, Option.map_some]
    rfl
theorem ln_zq {h : Hd} {k : Fo} (e : h.kind = 10) (g : Gz h k) (H : k.All PZ) : ∀ f r, N k + 1 ≤ f → stop r = true → pL f ((tcT h k).ls ++ r) = some (trs k, r) := by
  have hc := g.parts.2.2.1
  have R := g.pz H
  obtain ⟨kd, t, nu, p, tk, tn, rf, u⟩ := h
  obtain rfl : kd = 10 := e
  simp [childrenFit, places] at hc
  exact pL_any k (aimp (fun h k hh => ⟨hh.2, hh.1.1⟩) (all_and R (fits_rep hc).2))
theorem bl_zq {h : Hd} {k : Fo} (e : h.kind = 10) (g : Gz h k) (H : k.All PZ) : ∀ f r, N k + 4 ≤ f → pB f (blkK (tcT h k).ls ++ r) = some (sT h k, r) := by
  intro f r hf
  have L := ln_zq e g H
  have ht := g.parts.1
  obtain ⟨f1, rfl⟩ : ∃ f1, f = f1 + 1 := ⟨f - 1, by omega⟩
  have L1 := L f1 (op [125] :: r) (by omega) rfl
  rw [pB, show blkK (tcT h k).ls ++ r = op [123] :: ((tcT h k).ls ++ op [125] :: r) by simp [blkK], eat_self]
  simp only [Option.bind_some, L1, eat_self, Option.map_some]
  obtain ⟨kd, t, nu, p, tk, tn, rf, u⟩ := h
  obtain rfl : kd = 10 := e
  have htx : t.data.toList = [] := bnil ht
  rw [sT_nd rfl, htx]
/-- A variable's declaration, behind its word. -/
theorem pV_any {h : Hd} {h0 h1 : Hd} {k0 k1 : Fo} (e6 : h.kind = 6) (g : Gz h (.cons h0 k0 (.cons h1 k1 .nil))) (q0 : T.typeK h0.kind = true) (g0 : Gz h0 k0) (E : (h1.kind = 9 ∧ Gz h1 k1) ∨ (¬ h1.kind = 9 ∧ EQ h1 k1)) (f : Nat) (r : TL) (hf : N k1 + 12 ≤ f) (hr : fol r = true) :
    pV f ((1, h.text.data.toList) :: (Z.typeK h0 ++ (if h1.kind = 9 then [] else [op [61]] ++ (tcT h1 k1).ex) ++ r)) = some (sT h (.cons h0 k0 (.cons h1 k1 .nil)), r) := by
  obtain ⟨f1, rfl⟩ : ∃ f1, f = f1 + 1 := ⟨f - 1, by omega⟩
  obtain ⟨a1, a2, a3, a4, a5, a6⟩ := fol_sx hr
  obtain ⟨kd, t, nu, p, tk, tn, rf, u⟩ := h
  obtain rfl : kd = 6 := e6
  rw [sT_nd (kd := 6) (t := t) rfl, trs2]
  rw [pV]
  simp only [nameAt, Option.bind_some]
  rcases E with ⟨e, g1⟩ | ⟨e, q⟩
  · rw [if_pos e, List.append_nil, pT_any q0 g0]
    simp only [Option.bind_some]
    rw [if_neg (by rw [a3]; simp), none_any e g1]
  · rw [if_neg e, List.append_assoc, pT_any q0 g0]
    simp only [Option.bind_some]
    rw [if_pos (by rfl), show ([op [61]] ++ (tcT h1 k1).ex ++ r).tail = (tcT h1 k1).ex ++ r by simp, q.e f1 r (by omega) a1 a2]
    rfl
theorem case_zq {h : Hd} {k : Fo} (e : h.kind = 23) (g : Gz h k) (H : k.All PZ) : ∀ f r, N k + 10 ≤ f → stop r = true → pC (f + 1) ((tcT h k).st ++ r) = (pC f r).map fun m => (sT h k :: m.1, m.2) := by
  intro f r hf hs
  have hc := g.parts.2.2.1
  have ht := g.parts.1
  have R := g.pz H
  obtain ⟨kd, t, nu, p, tk, tn, rf, u⟩ := h
  obtain rfl : kd = 23 := e
  simp [childrenFit, places] at hc
  obtain ⟨h0, k0, h1, k1, rfl, q0, q1⟩ := fits_two hc
  have e1 := one_kind q1
  simp at e1
  have htx : t.data.toList = [] := bnil ht
  rw [N2] at hf
  have L := R.2.1.1.ln e1 f r (by omega) hs
  have hb1 : nd 10 [] (trs k1) = sT h1 k1 := by
    have ht1 := R.2.1.2.parts.1
    obtain ⟨kd, t, nu, p, tk, tn, rf, u⟩ := h1
    obtain rfl : kd = 10 := e1
    have htx : t.data.toList = [] := bnil ht1
    rw [sT_nd rfl, htx]
  simp only [opt, Bool.or_eq_true] at q0
  rw [sT_nd (kd := 23) (t := t) rfl, trs2, htx]
  by_cases h9 : h0.kind = 9
  · have et : (tcT ⟨23, t, nu, p, tk, tn, rf, u⟩ (.cons h0 k0 (.cons h1 k1 .nil))).st ++ r = kwd [100, 101, 102, 97, 117, 108, 116] :: op [58] :: ((tcT h1 k1).ls ++ r) := by
      show caseK [tcT h0 k0, tcT h1 k1] ++ r = _
      simp [caseK, nt, tcT_h, h9]
    rw [et, pC, if_pos (isAt_self _ _), List.tail_cons, eat_self]
    simp only [Option.bind_some, L]
    rw [hb1, none_any h9 R.1.2]
  · have q : stmtK h0.kind = true := by
      rcases q0 with q | q
      · exact absurd (by simpa using q) h9
      · simp only [commT, Bool.or_eq_true, Bool.and_eq_true, beq_iff_eq] at q
        rcases q with q | ⟨(q | q) | q, _⟩ <;> rw [q] <;> rfl
    have S := R.1.1.st q f (op [58] :: ((tcT h1 k1).ls ++ r)) (by omega) rfl
    have et : (tcT ⟨23, t, nu, p, tk, tn, rf, u⟩ (.cons h0 k0 (.cons h1 k1 .nil))).st ++ r = kwd [99, 97, 115, 101] :: ((tcT h0 k0).st ++ op [58] :: ((tcT h1 k1).ls ++ r)) := by
      show caseK [tcT h0 k0, tcT h1 k1] ++ r = _
      simp [caseK, nt, tcT_h, h9]
    rw [et, pC, if_neg (by rw [isAt_cons]; decide), if_pos (isAt_self _ _), List.tail_cons, S]
    simp only [Option.bind_some, eat_self, L]
    rw [hb1]
theorem pC_any : ∀ (F : Fo), (F.All fun h k => h.kind = 23 ∧ PQ h k) → ∀ f r, N F + 10 ≤ f → pC f (((tcF F).map fun x => x.st).flatten ++ op [125] :: r) = some (trs F, op [125] :: r)
  | .nil, _, f, r, hf => by
    obtain ⟨f1, rfl⟩ : ∃ f1, f = f1 + 1 := ⟨f - 1, by omega⟩
    rw [show ((tcF .nil).map fun x => x.st).flatten ++ op [125] :: r = op [125] :: r from rfl, pC, if_neg (by rw [isAt_cons]; decide), if_neg (by rw [isAt_cons]; decide)]
    rfl
  | .cons h k R, hF, f, r, hf => by
    rw [Nc] at hf
    obtain ⟨f1, rfl⟩ : ∃ f1, f = f1 + 1 := ⟨f - 1, by omega⟩
    have I := pC_any R hF.2 f1 r (by omega)
    have hstop : stop (((tcF R).map fun x => x.st).flatten ++ op [125] :: r) = true := by
      cases R with
      | nil => rfl
      | cons h2 k2 R =>
        rw [tcF_cons]
        obtain ⟨kd, t, nu, p, tk, tn, rf, u⟩ := h2
        obtain rfl : kd = 23 := hF.2.1.1
        show stop ((caseK (tcF k2) ++ ((tcF R).map fun x => x.st).flatten) ++ op [125] :: r) = true
        unfold caseK
        split <;> rfl
    have C := hF.1.2.cs hF.1.1 f1 (((tcF R).map fun x => x.st).flatten ++ op [125] :: r) (by omega) hstop
    rw [show ((tcF (.cons h k R)).map fun x => x.st).flatten ++ op [125] :: r = (tcT h k).st ++ (((tcF R).map fun x => x.st).flatten ++ op [125] :: r) by rw [tcF_cons]; simp, C, I]
    rfl
theorem fi_zq {h : Hd} {k : Fo} (e : h.kind = 18) (g : Gz h k) (H : k.All PZ) : ∃ L, (tcT h k).st = kwd [105, 102] :: L ∧ ∀ f r, N k + 12 ≤ f → fol r = true → pI f (L ++ r) = some (sT h k, r) := by
  have hc := g.parts.2.2.1
  have ht := g.parts.1
  have R := g.pz H
  obtain ⟨kd, t, nu, p, tk, tn, rf, u⟩ := h
  obtain rfl : kd = 18 := e
  simp [childrenFit, places] at hc
  obtain ⟨h0, k0, h1, k1, h2, k2, rfl, q0, q1, q2⟩ := fits_three hc
  have e1 := one_kind q1
  simp at e1
  have htx : t.data.toList = [] := bnil ht
  have et : (tcT ⟨18, t, nu, p, tk, tn, rf, u⟩ (.cons h0 k0 (.cons h1 k1 (.cons h2 k2 .nil)))).st = kwd [105, 102] :: ((tcT h0 k0).ex ++ blkK (tcT h1 k1).ls ++ (if h2.kind = 9 then [] else [kwd [101, 108, 115, 101]] ++ (tcT h2 k2).st)) := by
    show stK ⟨18, t, nu, p, tk, tn, rf, u⟩ (linesK [tcT h0 k0, tcT h1 k1, tcT h2 k2]) [tcT h0 k0, tcT h1 k1, tcT h2 k2] = _
    simp [stK, nt, tcT_h]
  refine ⟨_, et, fun f r hf hr => ?_⟩
  have hN : N (.cons h0 k0 (.cons h1 k1 (.cons h2 k2 .nil))) = N k0 + N k1 + N k2 + 48 := by simp only [N, Fo.cnt]; omega
  rw [hN] at hf
  obtain ⟨f1, rfl⟩ : ∃ f1, f = f1 + 1 := ⟨f - 1, by omega⟩
  obtain ⟨a1, a2, a3, a4, a5, a6⟩ := fol_sx hr
  rw [sT_nd (kd := 18) (t := t) rfl, trs3, htx]
  simp only [opt, Bool.or_eq_true] at q2
  have B := fun rr => R.2.1.1.bl e1 f1 rr (by omega)
  by_cases h9 : h2.kind = 9
  · rw [if_pos h9, List.append_nil, List.append_assoc, pI, (R.1.1.ex q0).e f1 (blkK (tcT h1 k1).ls ++ r) (by omega) rfl rfl]
    simp only [Option.bind_some, B]
    rw [if_neg (by rw [a6]; simp), none_any h9 R.2.2.1.2]
  · have e2 : h2.kind = 10 ∨ h2.kind = 18 := by
      rcases q2 with q | q
      · exact absurd (by simpa using q) h9
      · have := one_kind q
        simpa using this
    rw [if_neg h9, show (tcT h0 k0).ex ++ blkK (tcT h1 k1).ls ++ ([kwd [101, 108, 115, 101]] ++ (tcT h2 k2).st) ++ r = (tcT h0 k0).ex ++ (blkK (tcT h1 k1).ls ++ kwd [101, 108, 115, 101] :: ((tcT h2 k2).st ++ r)) by simp, pI, (R.1.1.ex q0).e f1 _ (by omega) rfl rfl]
    simp only [Option.bind_some, B]
    rw [if_pos (isAt_self _ _), List.tail_cons]
    rcases e2 with e2 | e2
    · have es : (tcT h2 k2).st = blkK (tcT h2 k2).ls := tst_10 h2 k2 e2
      have B2 := R.2.2.1.1.bl e2 f1 r (by omega)
      rw [es, if_neg (by rw [show blkK (tcT h2 k2).ls ++ r = op [123] :: ((tcT h2 k2).ls ++ [op [125]] ++ r) by simp [blkK], isAt_cons]; decide), B2]
      rfl
    · obtain ⟨L, es, I⟩ := R.2.2.1.1.fi e2
      rw [es, if_pos (by rfl), show (kwd [105, 102] :: L ++ r).tail = L ++ r from rfl, I f1 r (by omega) hr]
      rfl
theorem st_hd {h : Hd} {k : Fo} (he : stmtK h.kind = true) (g : Gz h k) (H : k.All PZ) : hdP okS (tcT h k).st := by
  have hc := g.parts.2.2.1
  have R := g.pz H
  have up : ∀ {L : TL}, hdP okE L → hdP okS L := fun ⟨x, t, e, h⟩ => ⟨x, t, e, by unfold okS; rw [h]; rfl⟩
  obtain ⟨kd, t, nu, p, tk, tn, rf, u⟩ := h
  simp only [stmtK, Bool.or_eq_true, beq_iff_eq] at he
  rcases he with ((((((((((((rfl | rfl) | rfl) | rfl) | rfl) | rfl) | rfl) | rfl) | rfl) | rfl) | rfl) | rfl) | rfl) | rfl
  · exact hd1 (by decide) _
  · exact hd1 (by decide) _
  · exact hd1 (x := (1, t.data.toList)) rfl _
  · simp [childrenFit, places] at hc
    obtain ⟨h0, k0, h1, k1, rfl, q0, q1⟩ := fits_two hc
    exact (up (R.1.1.ex q0).hd).app.app
  · simp [childrenFit, places] at hc
    obtain ⟨h0, k0, rfl, q0⟩ := fits_one hc
    have e : exprK h0.kind = true := by
      have := one_kind q0
      simp at this
      rcases this with h | h <;> rw [h] <;> rfl
    exact up (R.1.1.ex e).hd
  · exact hd1 (by decide) _
  · exact hd1 (by decide) _
  · simp [childrenFit, places] at hc
    obtain ⟨h0, k0, h1, k1, rfl, q0, q1⟩ := fits_two hc
    exact (up (R.1.1.ex q0).hd).app.app
  · exact hd1 (by decide) _
  · exact hd1 (by decide) _
  · exact hd1 (by decide) _
  · show hdP okS (if _ then _ else _)
    split
    · exact hd1 (by decide) _
    · exact hd1 (by decide) _
  · exact hd1 (by decide) _
  · exact hd1 (by decide) _
/-- Behind the words of statements. -/
theorem pS_expr {L : TL} (h : hdP okE L) (f : Nat) (r : TL) : pS (f + 1) (L ++ r) = pZ f (L ++ r) := by
  rw [pS]
  rw [isAt_no (p := okE) (by decide) h, isAt_no (p := okE) (by decide) h, isAt_no (p := okE) (by decide) h, isAt_no (p := okE) (by decide) h, isAt_no (p := okE) (by decide) h, isAt_no (p := okE) (by decide) h, isAt_no (p := okE) (by decide) h, isAt_no (p := okE) (by decide) h, isAt_no (p := okE) (by decide) h, isAt_no (p := okE) (by decide) h]
  rfl
theorem st_zq {h : Hd} {k : Fo} (he : stmtK h.kind = true) (g : Gz h k) (H : k.All PZ) : ∀ f r, N k + 16 ≤ f → fol r = true → pS f ((tcT h k).st ++ r) = some (sT h k, r) := by
  intro f r hf hr
  have hc := g.parts.2.2.1
  have ht := g.parts.1
  have R := g.pz H
  have g0 := g
  obtain ⟨a1, a2, a3, a4, a5, a6⟩ := fol_sx hr
  obtain ⟨f1, rfl⟩ : ∃ f1, f = f1 + 2 := ⟨f - 2, by omega⟩
  obtain ⟨kd, t, nu, p, tk, tn, rf, u⟩ := h
  simp only [stmtK, Bool.or_eq_true, beq_iff_eq] at he
  rcases he with ((((((((((((rfl | rfl) | rfl) | rfl) | rfl) | rfl) | rfl) | rfl) | rfl) | rfl) | rfl) | rfl) | rfl) | rfl
  · -- 6
    simp [childrenFit, places] at hc
    obtain ⟨h0, k0, h1, k1, rfl, q0, q1⟩ := fits_two hc
    rw [N2] at hf
    simp only [opt, Bool.or_eq_true] at q1
    have V := pV_any (h := ⟨6, t, nu, p, tk, tn, rf, u⟩) rfl g0 q0 R.1.2 (by
      by_cases h9 : h1.kind = 9
      · exact .inl ⟨h9, R.2.1.2⟩
      · exact .inr ⟨h9, R.2.1.1.ex (by rcases q1 with q | q; exact absurd (by simpa using q) h9; exact q)⟩) (f1 + 1) r (by omega) hr
    have et : (tcT ⟨6, t, nu, p, tk, tn, rf, u⟩ (.cons h0 k0 (.cons h1 k1 .nil))).st ++ r = kwd [118, 97, 114] :: (1, t.data.toList) :: (Z.typeK h0 ++ (if h1.kind = 9 then [] else [op [61]] ++ (tcT h1 k1).ex) ++ r) := by
      show varK ⟨6, t, nu, p, tk, tn, rf, u⟩ [tcT h0 k0, tcT h1 k1] ++ r = _
      simp [varK, nt, tcT_h]
    rw [et, pS, if_pos (isAt_self _ _), List.tail_cons]
    exact V
  · -- 10
    have B := bl_zq rfl g0 H (f1 + 1) r (by omega)
    have et : (tcT ⟨10, t, nu, p, tk, tn, rf, u⟩ k).st ++ r = op [123] :: ((tcT ⟨10, t, nu, p, tk, tn, rf, u⟩ k).ls ++ [op [125]] ++ r) := by
      show blkK _ ++ r = _
      simp [blkK]; rfl
    rw [pS, if_neg (by rw [et, isAt_cons]; decide), if_pos (by rw [et]; exact isAt_self _ _)]
    exact B
  · -- 11
    simp [childrenFit, places] at hc
    obtain ⟨h0, k0, rfl, q0⟩ := fits_one hc
    rw [N1] at hf
    have E := (R.1.1.ex q0).e (f1) r (by omega) a1 a2
    have hnm : EQ ⟨27, t, 0, 0, 0, ⟨#[]⟩, 0, 0⟩ .nil := EQ.ofX rfl rfl rfl (BX.atom (o := 1) (t := t.data.toList) rfl (fun _ => rfl) fun f r2 hf => by
      obtain ⟨f1, rfl⟩ : ∃ f1, f = f1 + 1 := ⟨f - 1, by omega⟩
      rw [sT_nd rfl, show (1, t.data.toList) :: [] ++ r2 = (1, t.data.toList) :: r2 by simp, pA, if_neg (by simp), if_pos rfl]
      rfl) (hd1 rfl _)
    have E0 := hnm.e f1 (op [58, 61] :: ((tcT h0 k0).ex ++ r)) (by simp only [N, Fo.cnt]; omega) rfl rfl
    have hx : (tcT ⟨27, t, 0, 0, 0, ⟨#[]⟩, 0, 0⟩ .nil).ex = [(1, t.data.toList)] := rfl
    rw [hx] at E0
    have et : (tcT ⟨11, t, nu, p, tk, tn, rf, u⟩ (.cons h0 k0 .nil)).st ++ r = [(1, t.data.toList)] ++ (op [58, 61] :: ((tcT h0 k0).ex ++ r)) := by
      show [(1, t.data.toList)] ++ [op [58, 61]] ++ (tcT h0 k0).ex ++ r = _
      simp
    rw [et, pS_expr (hd1 rfl _), pZ, E0]
    simp only [Option.bind_some]
    rw [if_neg (by rw [isAt_cons]; decide), if_pos (isAt_self _ _), List.tail_cons, E, sT_nd (kd := 11) (t := t) rfl, trs1]
    rfl
  · -- 12
    simp [childrenFit, places] at hc
    obtain ⟨h0, k0, h1, k1, rfl, q0, q1⟩ := fits_two hc
    rw [N2] at hf
    have htx : t.data.toList = [] := bnil ht
    have E0 := (R.1.1.ex q0).e f1 (op [61] :: ((tcT h1 k1).ex ++ r)) (by omega) rfl rfl
    have E1 := (R.2.1.1.ex q1).e f1 r (by omega) a1 a2
    have et : (tcT ⟨12, t, nu, p, tk, tn, rf, u⟩ (.cons h0 k0 (.cons h1 k1 .nil))).st ++ r = (tcT h0 k0).ex ++ (op [61] :: ((tcT h1 k1).ex ++ r)) := by
      show (tcT h0 k0).ex ++ [op [61]] ++ (tcT h1 k1).ex ++ r = _
      simp
    rw [et, pS_expr (R.1.1.ex q0).hd, pZ, E0]
    simp only [Option.bind_some]
    rw [if_pos (isAt_self _ _), List.tail_cons, E1, sT_nd (kd := 12) (t := t) rfl, trs2, htx]
    rfl
  · -- 13
    simp [childrenFit, places] at hc
    obtain ⟨h0, k0, rfl, q0⟩ := fits_one hc
    rw [N1] at hf
    have htx : t.data.toList = [] := bnil ht
    have e : exprK h0.kind = true := by
      have := one_kind q0
      simp at this
      rcases this with h | h <;> rw [h] <;> rfl
    have E0 := (R.1.1.ex e).e f1 r (by omega) a1 a2
    rw [show (tcT ⟨13, t, nu, p, tk, tn, rf, u⟩ (.cons h0 k0 .nil)).st = (tcT h0 k0).ex from rfl, pS_expr (R.1.1.ex e).hd, pZ, E0]
    simp only [Option.bind_some]
    rw [if_neg (by rw [a3]; simp), if_neg (by rw [a4]; simp), if_neg (by rw [a5]; simp), sT_nd (kd := 13) (t := t) rfl, trs1, htx]
  · -- 14
    simp [childrenFit, places] at hc
    obtain ⟨h0, k0, rfl, q0⟩ := fits_one hc
    rw [N1] at hf
    have htx : t.data.toList = [] := bnil ht
    have e : exprK h0.kind = true := by
      have := one_kind q0
      simp at this
      rw [this]; rfl
    have E0 := (R.1.1.ex e).e (f1 + 1) r (by omega) a1 a2
    have et : (tcT ⟨14, t, nu, p, tk, tn, rf, u⟩ (.cons h0 k0 .nil)).st ++ r = kwd [103, 111] :: ((tcT h0 k0).ex ++ r) := rfl
    rw [et, pS, if_neg (by rw [isAt_cons]; decide), if_neg (by rw [isAt_cons]; decide), if_pos (isAt_self _ _), List.tail_cons, E0, sT_nd (kd := 14) (t := t) rfl, trs1, htx]
    rfl
  · -- 15
    simp [childrenFit, places] at hc
    obtain ⟨h0, k0, rfl, q0⟩ := fits_one hc
    rw [N1] at hf
    have htx : t.data.toList = [] := bnil ht
    have e : exprK h0.kind = true := by
      have := one_kind q0
      simp at this
      rw [this]; rfl
    have E0 := (R.1.1.ex e).e (f1 + 1) r (by omega) a1 a2
    have et : (tcT ⟨15, t, nu, p, tk, tn, rf, u⟩ (.cons h0 k0 .nil)).st ++ r = kwd [100, 101, 102, 101, 114] :: ((tcT h0 k0).ex ++ r) := rfl
    rw [et, pS, if_neg (by rw [isAt_cons]; decide), if_neg (by rw [isAt_cons]; decide), if_neg (by rw [isAt_cons]; decide), if_pos (isAt_self _ _), List.tail_cons, E0, sT_nd (kd := 15) (t := t) rfl, trs1, htx]
    rfl
  · -- 16
    simp [childrenFit, places] at hc
    obtain ⟨h0, k0, h1, k1, rfl, q0, q1⟩ := fits_two hc
    rw [N2] at hf
    have htx : t.data.toList = [] := bnil ht
    have E0 := (R.1.1.ex q0).e f1 (op [60, 45] :: ((tcT h1 k1).ex ++ r)) (by omega) rfl rfl
    have E1 := (R.2.1.1.ex q1).e f1 r (by omega) a1 a2
    have et : (tcT ⟨16, t, nu, p, tk, tn, rf, u⟩ (.cons h0 k0 (.cons h1 k1 .nil))).st ++ r = (tcT h0 k0).ex ++ (op [60, 45] :: ((tcT h1 k1).ex ++ r)) := by
      show (tcT h0 k0).ex ++ [op [60, 45]] ++ (tcT h1 k1).ex ++ r = _
      simp
    rw [et, pS_expr (R.1.1.ex q0).hd, pZ, E0]
    simp only [Option.bind_some]
    rw [if_neg (by rw [isAt_cons]; decide), if_neg (by rw [isAt_cons]; decide), if_pos (isAt_self _ _), List.tail_cons, E1, sT_nd (kd := 16) (t := t) rfl, trs2, htx]
    rfl
  · -- 17
    simp [childrenFit, places] at hc
    obtain ⟨h0, k0, rfl, q0⟩ := fits_one hc
    rw [N1] at hf
    have htx : t.data.toList = [] := bnil ht
    have E0 := (R.1.1.ex q0).e (f1 + 1) (op [41] :: r) (by omega) rfl rfl
    have et : (tcT ⟨17, t, nu, p, tk, tn, rf, u⟩ (.cons h0 k0 .nil)).st ++ r = kwd [99, 108, 111, 115, 101] :: op [40] :: ((tcT h0 k0).ex ++ op [41] :: r) := by
      show [kwd [99, 108, 111, 115, 101], op [40]] ++ (tcT h0 k0).ex ++ [op [41]] ++ r = _
      simp
    rw [et, pS, if_neg (by rw [isAt_cons]; decide), if_neg (by rw [isAt_cons]; decide), if_neg (by rw [isAt_cons]; decide), if_neg (by rw [isAt_cons]; decide), if_pos (isAt_self _ _), List.tail_cons, eat_self]
    simp only [Option.bind_some, E0, eat_self, Option.map_some]
    rw [sT_nd (kd := 17) (t := t) rfl, trs1, htx]
  · -- 21
    simp [childrenFit, places] at hc
    obtain ⟨h0, k0, rfl, q0⟩ := fits_one hc
    rw [N1] at hf
    have htx : t.data.toList = [] := bnil ht
    have E0 := (R.1.1.ex q0).e (f1 + 1) (op [41] :: r) (by omega) rfl rfl
    have et : (tcT ⟨21, t, nu, p, tk, tn, rf, u⟩ (.cons h0 k0 .nil)).st ++ r = kwd [112, 114, 105, 110, 116] :: op [40] :: ((tcT h0 k0).ex ++ op [41] :: r) := by
      show [kwd [112, 114, 105, 110, 116], op [40]] ++ (tcT h0 k0).ex ++ [op [41]] ++ r = _
      simp
    rw [et, pS, if_neg (by rw [isAt_cons]; decide), if_neg (by rw [isAt_cons]; decide), if_neg (by rw [isAt_cons]; decide), if_neg (by rw [isAt_cons]; decide), if_neg (by rw [isAt_cons]; decide), if_pos (isAt_self _ _), List.tail_cons, eat_self]
    simp only [Option.bind_some, E0, eat_self, Option.map_some]
    rw [sT_nd (kd := 21) (t := t) rfl, trs1, htx]
  · -- 18
    obtain ⟨L, es, I⟩ := fi_zq rfl g0 H
    rw [es, show kwd [105, 102] :: L ++ r = kwd [105, 102] :: (L ++ r) from rfl, pS, if_neg (by rw [isAt_cons]; decide), if_neg (by rw [isAt_cons]; decide), if_neg (by rw [isAt_cons]; decide), if_neg (by rw [isAt_cons]; decide), if_neg (by rw [isAt_cons]; decide), if_neg (by rw [isAt_cons]; decide), if_pos (isAt_self _ _), List.tail_cons]
    exact I (f1 + 1) r (by omega) hr
  · -- 19
    simp [childrenFit, places] at hc
    obtain ⟨h0, k0, h1, k1, rfl, q0, q1⟩ := fits_two hc
    rw [N2] at hf
    have htx : t.data.toList = [] := bnil ht
    have e1 := one_kind q1
    simp at e1
    have B := R.2.1.1.bl e1 (f1 + 1) r (by omega)
    simp only [opt, Bool.or_eq_true] at q0
    rw [sT_nd (kd := 19) (t := t) rfl, trs2, htx]
    by_cases h9 : h0.kind = 9
    · have et : (tcT ⟨19, t, nu, p, tk, tn, rf, u⟩ (.cons h0 k0 (.cons h1 k1 .nil))).st ++ r = kwd [102, 111, 114] :: (blkK (tcT h1 k1).ls ++ r) := by
        show stK ⟨19, t, nu, p, tk, tn, rf, u⟩ (linesK [tcT h0 k0, tcT h1 k1]) [tcT h0 k0, tcT h1 k1] ++ r = _
        simp [stK, nt, tcT_h, h9]
      rw [et, pS, if_neg (by rw [isAt_cons]; decide), if_neg (by rw [isAt_cons]; decide), if_neg (by rw [isAt_cons]; decide), if_neg (by rw [isAt_cons]; decide), if_neg (by rw [isAt_cons]; decide), if_neg (by rw [isAt_cons]; decide), if_neg (by rw [isAt_cons]; decide), if_pos (isAt_self _ _), List.tail_cons, if_pos (by rfl), B, none_any h9 R.1.2]
      rfl
    · have q : exprK h0.kind = true := by rcases q0 with q | q; exact absurd (by simpa using q) h9; exact q
      have E0 := (R.1.1.ex q).e (f1 + 1) (blkK (tcT h1 k1).ls ++ r) (by omega) rfl rfl
      have et : (tcT ⟨19, t, nu, p, tk, tn, rf, u⟩ (.cons h0 k0 (.cons h1 k1 .nil))).st ++ r = kwd [102, 111, 114] :: ((tcT h0 k0).ex ++ (blkK (tcT h1 k1).ls ++ r)) := by
        show stK ⟨19, t, nu, p, tk, tn, rf, u⟩ (linesK [tcT h0 k0, tcT h1 k1]) [tcT h0 k0, tcT h1 k1] ++ r = _
        simp [stK, nt, tcT_h, h9]
      rw [et, pS, if_neg (by rw [isAt_cons]; decide), if_neg (by rw [isAt_cons]; decide), if_neg (by rw [isAt_cons]; decide), if_neg (by rw [isAt_cons]; decide), if_neg (by rw [isAt_cons]; decide), if_neg (by rw [isAt_cons]; decide), if_neg (by rw [isAt_cons]; decide), if_pos (isAt_self _ _), List.tail_cons, if_neg (by rw [isAt_no (p := okE) (by decide) (R.1.1.ex q).hd]; simp), E0]
      simp only [Option.bind_some, B, Option.map_some]
  · -- 20
    simp [childrenFit, places] at hc
    obtain ⟨hm, hA⟩ := fits_rep hc
    have htx : t.data.toList = [] := bnil ht
    rw [sT_nd (kd := 20) (t := t) rfl, htx]
    match k, hm, hA, R, hf with
    | .nil, _, _, _, _ =>
      have et : (tcT ⟨20, t, nu, p, tk, tn, rf, u⟩ .nil).st ++ r = kwd [114, 101, 116, 117, 114, 110] :: r := rfl
      rw [et, pS, if_neg (by rw [isAt_cons]; decide), if_neg (by rw [isAt_cons]; decide), if_neg (by rw [isAt_cons]; decide), if_neg (by rw [isAt_cons]; decide), if_neg (by rw [isAt_cons]; decide), if_neg (by rw [isAt_cons]; decide), if_neg (by rw [isAt_cons]; decide), if_neg (by rw [isAt_cons]; decide), if_neg (by rw [isAt_cons]; decide), if_pos (isAt_self _ _), List.tail_cons, if_pos hr]
      rfl
    | .cons h0 k0 .nil, _, hA, R, hf =>
      rw [N1] at hf
      have E0 := (R.1.1.ex hA.1).e (f1 + 1) r (by omega) a1 a2
      have et : (tcT ⟨20, t, nu, p, tk, tn, rf, u⟩ (.cons h0 k0 .nil)).st ++ r = kwd [114, 101, 116, 117, 114, 110] :: ((tcT h0 k0).ex ++ r) := rfl
      rw [et, pS, if_neg (by rw [isAt_cons]; decide), if_neg (by rw [isAt_cons]; decide), if_neg (by rw [isAt_cons]; decide), if_neg (by rw [isAt_cons]; decide), if_neg (by rw [isAt_cons]; decide), if_neg (by rw [isAt_cons]; decide), if_neg (by rw [isAt_cons]; decide), if_neg (by rw [isAt_cons]; decide), if_neg (by rw [isAt_cons]; decide), if_pos (isAt_self _ _), List.tail_cons, if_neg (by unfold fol; rw [isAt_no (p := okE) (by decide) (R.1.1.ex hA.1).hd, isAt_no (p := okE) (by decide) (R.1.1.ex hA.1).hd]; simp), E0]
      rfl
    | .cons h0 k0 (.cons h1 k1 r'), hm, _, _, _ => simp only [Fo.len] at hm; omega
  · -- 22
    simp [childrenFit, places] at hc
    have hA := (fits_rep hc).2
    have htx : t.data.toList = [] := bnil ht
    have C := pC_any k (aimp (fun h k hh => ⟨by have := one_kind hh.2; simpa using this, hh.1.1⟩) (all_and R hA)) (f1 + 1) r (by omega)
    have et : (tcT ⟨22, t, nu, p, tk, tn, rf, u⟩ k).st ++ r = kwd [115, 101, 108, 101, 99, 116] :: op [123] :: (((tcF k).map fun x => x.st).flatten ++ op [125] :: r) := by
      show [kwd [115, 101, 108, 101, 99, 116], op [123]] ++ ((tcF k).map fun x => x.st).flatten ++ [op [125]] ++ r = _
      simp
    rw [et, pS, if_neg (by rw [isAt_cons]; decide), if_neg (by rw [isAt_cons]; decide), if_neg (by rw [isAt_cons]; decide), if_neg (by rw [isAt_cons]; decide), if_neg (by rw [isAt_cons]; decide), if_neg (by rw [isAt_cons]; decide), if_neg (by rw [isAt_cons]; decide), if_neg (by rw [isAt_cons]; decide), if_pos (isAt_self _ _), List.tail_cons, eat_self]
    simp only [Option.bind_some, C, eat_self, Option.map_some]
    rw [sT_nd (kd := 22) (t := t) rfl, htx]
end Go.Proofs.YticbcnhbpbaocaaGreatDoor.Z

set_option linter.all false
namespace Go.Proofs.YticbcnhbpbaocaaGreatDoor.Z
open M T T.Fo

theorem pz_any (h : Hd) (k : Fo) : PZ h k := Fo.ind (fun h k H g => ⟨fun e => ex_zq e g H, fun e => st_zq e g H, fun e => st_hd e g H, fun e => bl_zq e g H, fun e => ln_zq e g H, fun e => fi_zq e g H, fun e => case_zq e g H⟩) h k
theorem all_pz : ∀ F : Fo, F.All PZ
  | .nil => trivial
  | .cons h k r => ⟨pz_any h k, all_pz r⟩
/-- A field. -/
theorem field_of {h : Hd} {k : Fo} (e : h.kind = 3) (g : Gz h k) : ∃ t h0 k0, (tcT h k).st = (1, t) :: Z.typeK h0 ∧ T.typeK h0.kind = true ∧ Gz h0 k0 ∧ sT h k = nd 3 t [sT h0 k0] := by
  have hc := g.parts.2.2.1
  have gk := g.kids
  obtain ⟨kd, t, nu, p, tk, tn, r, u⟩ := h
  obtain rfl : kd = 3 := e
  simp [childrenFit, places] at hc
  obtain ⟨h0, k0, rfl, q0⟩ := fits_one hc
  exact ⟨t.data.toList, h0, k0, rfl, q0, gk.1, by rw [sT_nd (kd := 3) (t := t) rfl, trs1]⟩
theorem pF_any : ∀ (F : Fo), (F.All fun h k => h.kind = 3 ∧ Gz h k) → ∀ f r, F.cnt + 1 ≤ f → pF f (linesK (tcF F) ++ op [125] :: r) = some (trs F, op [125] :: r)
  | .nil, _, f, r, hf => by
    obtain ⟨f1, rfl⟩ : ∃ f1, f = f1 + 1 := ⟨f - 1, by omega⟩
    rw [show linesK (tcF .nil) ++ op [125] :: r = op [125] :: r from rfl, pF, if_pos (isAt_self _ _)]
    rfl
  | .cons h k R, hF, f, r, hf => by
    simp only [Fo.cnt] at hf
    obtain ⟨f1, rfl⟩ : ∃ f1, f = f1 + 1 := ⟨f - 1, by omega⟩
    have I := pF_any R hF.2 f1 r (by omega)
    obtain ⟨t, h0, k0, e1, e2, e3, e4⟩ := field_of hF.1.1 hF.1.2
    rw [show linesK (tcF (.cons h k R)) ++ op [125] :: r = (1, t) :: (Z.typeK h0 ++ op [59] :: (linesK (tcF R) ++ op [125] :: r)) by rw [tcF_cons]; simp [linesK, lineK, e1], pF, if_neg (by rw [isAt_cons]; simp)]
    simp only [nameAt, Option.bind_some]
    rw [pT_any e2 e3]
    simp only [Option.bind_some, eat_self, I, Option.map_some]
    show _ = some (sT h k :: trs R, _)
    rw [e4]
theorem pM_any : ∀ (F : Fo) (h : Hd) (k : Fo), (h.kind = 3 ∧ Gz h k) → (F.All fun h k => h.kind = 3 ∧ Gz h k) → ∀ f r, F.cnt + 1 ≤ f → pM f (commaK ((tcT h k).st :: (tcF F).map (·.st)) ++ op [41] :: r) = some (sT h k :: trs F, op [41] :: r)
  | .nil, h, k, hh, _, f, r, hf => by
    obtain ⟨f1, rfl⟩ : ∃ f1, f = f1 + 1 := ⟨f - 1, by omega⟩
    obtain ⟨t, h0, k0, e1, e2, e3, e4⟩ := field_of hh.1 hh.2
    rw [show commaK ((tcT h k).st :: (tcF .nil).map (·.st)) ++ op [41] :: r = (1, t) :: (Z.typeK h0 ++ op [41] :: r) by simp [tcF, commaK, e1], pM]
    simp only [nameAt, Option.bind_some]
    rw [pT_any e2 e3]
    simp only [Option.bind_some]
    rw [if_neg (by rw [isAt_cons]; decide), e4]
    rfl
  | .cons h2 k2 R, h, k, hh, hF, f, r, hf => by
    simp only [Fo.cnt] at hf
    obtain ⟨f1, rfl⟩ : ∃ f1, f = f1 + 1 := ⟨f - 1, by omega⟩
    obtain ⟨t, h0, k0, e1, e2, e3, e4⟩ := field_of hh.1 hh.2
    have I := pM_any R h2 k2 hF.1 hF.2 f1 r (by omega)
    rw [show commaK ((tcT h k).st :: (tcF (.cons h2 k2 R)).map (·.st)) ++ op [41] :: r = (1, t) :: (Z.typeK h0 ++ op [44] :: (commaK ((tcT h2 k2).st :: (tcF R).map (·.st)) ++ op [41] :: r)) by rw [tcF_cons]; simp [commaK, e1], pM]
    simp only [nameAt, Option.bind_some]
    rw [pT_any e2 e3]
    simp only [Option.bind_some]
    rw [if_pos (isAt_self _ _), List.tail_cons, I, e4]
    rfl
theorem N_cnt (k : Fo) : k.cnt ≤ N k := by unfold N; omega
theorem pD_any {h : Hd} {k : Fo} (e : declT h k = true) (g : Gz h k) (f : Nat) (r : TL) (hf : N k + 16 ≤ f) (hr : fol r = true) : pD f ((tcT h k).st ++ r) = some (sT h k, r) := by
  have hc := g.parts.2.2.1
  have ht := g.parts.1
  have gk := g.kids
  have R := g.pz (all_pz k)
  have g0 := g
  obtain ⟨kd, t, nu, p, tk, tn, rf, u⟩ := h
  simp only [declT, Bool.or_eq_true, Bool.and_eq_true, beq_iff_eq] at e
  rcases e with (rfl | rfl) | ⟨rfl, hl⟩
  · -- 2
    simp [childrenFit, places] at hc
    have hA := (fits_rep hc).2
    have I := pF_any k (aimp (fun h k hh => ⟨by have := one_kind hh.2; simpa using this, hh.1⟩) (all_and gk hA)) f r (by have := N_cnt k; omega)
    have et : (tcT ⟨2, t, nu, p, tk, tn, rf, u⟩ k).st ++ r = kwd [116, 121, 112, 101] :: (1, t.data.toList) :: kwd [115, 116, 114, 117, 99, 116] :: op [123] :: (linesK (tcF k) ++ op [125] :: r) := by
      show [kwd [116, 121, 112, 101]] ++ [(1, t.data.toList)] ++ [kwd [115, 116, 114, 117, 99, 116]] ++ blkK (linesK (tcF k)) ++ r = _
      simp [blkK]
    rw [et]
    unfold pD
    rw [if_neg (by rw [isAt_cons]; decide), if_pos (isAt_self _ _), List.tail_cons]
    simp only [nameAt, Option.bind_some, eat_self, I, Option.map_some]
    rw [sT_nd (kd := 2) (t := t) rfl]
  · -- 4
    simp [childrenFit, places] at hc
    obtain ⟨h0, k0, h1, k1, h2, k2, rfl, q0, q1, q2⟩ := fits_three hc
    have e0 := one_kind q0
    have e2 := one_kind q2
    simp at e0 e2
    have hN : N (.cons h0 k0 (.cons h1 k1 (.cons h2 k2 .nil))) = N k0 + N k1 + N k2 + 48 := by simp only [N, Fo.cnt]; omega
    rw [hN] at hf
    have B := R.2.2.1.1.bl e2 f r (by omega)
    have c0 := gk.1.parts.2.2.1
    have t0 := gk.1.parts.1
    have gk0 := gk.1.kids
    have hA : k0.All fun h k => h.kind = 3 ∧ Gz h k := by
      obtain ⟨kd, t, nu, p, tk, tn, r, u⟩ := h0
      obtain rfl : kd = 5 := e0
      simp [childrenFit, places] at c0
      exact aimp (fun h k hh => ⟨by have := one_kind hh.2; simpa using this, hh.1⟩) (all_and gk0 (fits_rep c0).2)
    have hs0 : sT h0 k0 = nd 5 [] (trs k0) := by
      obtain ⟨kd, t, nu, p, tk, tn, r, u⟩ := h0
      obtain rfl : kd = 5 := e0
      have htx : t.data.toList = [] := bnil t0
      rw [sT_nd (kd := 5) (t := t) rfl, htx]
    have hst0 : (tcT h0 k0).st = commaK ((tcF k0).map (·.st)) := by
      obtain ⟨kd, t, nu, p, tk, tn, r, u⟩ := h0
      obtain rfl : kd = 5 := e0
      rfl
    have et : (tcT ⟨4, t, nu, p, tk, tn, rf, u⟩ (.cons h0 k0 (.cons h1 k1 (.cons h2 k2 .nil)))).st ++ r = kwd wFunc :: (1, t.data.toList) :: op [40] :: (commaK ((tcF k0).map (·.st)) ++ op [41] :: ((if h1.kind = 9 then [] else Z.typeK h1) ++ (blkK (tcT h2 k2).ls ++ r))) := by
      show stK ⟨4, t, nu, p, tk, tn, rf, u⟩ (linesK [tcT h0 k0, tcT h1 k1, tcT h2 k2]) [tcT h0 k0, tcT h1 k1, tcT h2 k2] ++ r = _
      rw [← hst0]
      simp [stK, nt, tcT_h]
    have P : ∀ rr, (if isAt (op [41]) (commaK ((tcF k0).map (·.st)) ++ op [41] :: rr) then some ([], commaK ((tcF k0).map (·.st)) ++ op [41] :: rr) else pM f (commaK ((tcF k0).map (·.st)) ++ op [41] :: rr)) = some (trs k0, op [41] :: rr) := fun rr => by
      cases k0 with
      | nil => rw [if_pos (by rfl)]; rfl
      | cons h3 k3 F =>
        have M1 := pM_any F h3 k3 hA.1 hA.2 f rr (by have := N_cnt (.cons h3 k3 F); simp only [Fo.cnt] at this; omega)
        obtain ⟨tt, h4, k4, e1, _, _, _⟩ := field_of hA.1.1 hA.1.2
        have hno : isAt (op [41]) (commaK ((tcF (.cons h3 k3 F)).map (·.st)) ++ op [41] :: rr) = false := by
          rw [tcF_cons]
          cases F with
          | nil =>
            show isAt (op [41]) ((tcT h3 k3).st ++ op [41] :: rr) = false
            rw [e1]; show decide ((1, tt) = op [41]) = false; simp
          | cons h5 k5 F =>
            show isAt (op [41]) ((tcT h3 k3).st ++ [op [44]] ++ _ ++ op [41] :: rr) = false
            rw [e1]; show decide ((1, tt) = op [41]) = false; simp
        rw [if_neg (by rw [hno]; simp), show (tcF (.cons h3 k3 F)).map (·.st) = (tcT h3 k3).st :: (tcF F).map (·.st) by rw [tcF_cons]; rfl, M1]
        rfl
    rw [et]
    unfold pD
    rw [if_neg (by rw [isAt_cons]; decide), if_neg (by rw [isAt_cons]; decide), List.tail_cons]
    simp only [nameAt, Option.bind_some, eat_self]
    rw [P]
    simp only [Option.bind_some, eat_self]
    rw [sT_nd (kd := 4) (t := t) rfl, trs3, hs0]
    have hblk : blkK (tcT h2 k2).ls ++ r = op [123] :: ((tcT h2 k2).ls ++ [op [125]] ++ r) := by simp [blkK]
    by_cases h9 : h1.kind = 9
    · rw [if_pos h9, List.nil_append, if_pos (by rw [hblk]; exact isAt_self _ _)]
      simp only [Option.bind_some]
      rw [B, none_any h9 gk.2.1]
      rfl
    · have qT : T.typeK h1.kind = true := by
        simp only [opt, Bool.or_eq_true] at q1
        rcases q1 with q | q
        · exact absurd (by simpa using q) h9
        · exact q
      have hno : isAt (op [123]) (Z.typeK h1 ++ (blkK (tcT h2 k2).ls ++ r)) = false := by
        unfold Z.typeK
        repeat' split
        all_goals first
          | rfl
          | (show decide (_ = _) = false; simp)
      rw [if_neg h9, if_neg (by rw [hno]; simp), pT_any qT gk.2.1]
      simp only [Option.bind_some]
      rw [B]
      rfl
  · -- 6
    simp [childrenFit, places] at hc
    obtain ⟨h0, k0, h1, k1, rfl, q0, q1⟩ := fits_two hc
    rw [N2] at hf
    simp only [opt, Bool.or_eq_true] at q1
    have V := pV_any (h := ⟨6, t, nu, p, tk, tn, rf, u⟩) rfl g0 q0 R.1.2 (by
      by_cases h9 : h1.kind = 9
      · exact .inl ⟨h9, R.2.1.2⟩
      · exact .inr ⟨h9, R.2.1.1.ex (by rcases q1 with q | q; exact absurd (by simpa using q) h9; exact q)⟩) f r (by omega) hr
    have et : (tcT ⟨6, t, nu, p, tk, tn, rf, u⟩ (.cons h0 k0 (.cons h1 k1 .nil))).st ++ r = kwd [118, 97, 114] :: (1, t.data.toList) :: (Z.typeK h0 ++ (if h1.kind = 9 then [] else [op [61]] ++ (tcT h1 k1).ex) ++ r) := by
      show varK ⟨6, t, nu, p, tk, tn, rf, u⟩ [tcT h0 k0, tcT h1 k1] ++ r = _
      simp [varK, nt, tcT_h]
    rw [et]
    unfold pD
    rw [if_pos (isAt_self _ _), List.tail_cons]
    exact V
theorem decl_hd {h : Hd} {k : Fo} (e : declT h k = true) : ∃ x L, (tcT h k).st = x :: L := by
  obtain ⟨kd, t, nu, p, tk, tn, rf, u⟩ := h
  simp only [declT, Bool.or_eq_true, Bool.and_eq_true, beq_iff_eq] at e
  rcases e with (rfl | rfl) | ⟨rfl, hl⟩
  · exact ⟨_, _, rfl⟩
  · exact ⟨_, _, rfl⟩
  · exact ⟨_, _, rfl⟩
theorem pFile_any : ∀ (F : Fo), F.All Gz → (F.All fun h k => declT h k = true) → ∀ f, N F + 17 ≤ f → pFile f (fileK F) = some (trs F)
  | .nil, _, _, f, hf => by
    obtain ⟨f1, rfl⟩ : ∃ f1, f = f1 + 1 := ⟨f - 1, by omega⟩
    rfl
  | .cons h k R, g, hA, f, hf => by
    rw [Nc] at hf
    obtain ⟨f1, rfl⟩ : ∃ f1, f = f1 + 1 := ⟨f - 1, by omega⟩
    have D := pD_any hA.1 g.1 f1 (op [59] :: fileK R) (by omega) rfl
    have I := pFile_any R g.2 hA.2 f1 (by omega)
    obtain ⟨x, L, e⟩ := decl_hd hA.1
    have et : fileK (.cons h k R) = (tcT h k).st ++ op [59] :: fileK R := by unfold fileK; rw [tcF_cons]; simp [linesK, lineK]
    rw [e] at D et
    rw [et, List.cons_append, pFile, ← List.cons_append, D]
    simp only [Option.bind_some, eat_self, I, Option.map_some]
    rfl
/-! ### the text does not hang on annotations -/
def bareR (r : Rc) : Rc := ⟨bare r.h, r.ex, r.st, r.ls⟩
theorem nth_bare (K : List Rc) (i : Nat) : T.nth (K.map bareR) i = bareR (T.nth K i) := by
  unfold T.nth
  rw [List.getD_eq_getElem?_getD, List.getD_eq_getElem?_getD, List.getElem?_map]
  cases K[i]? with
  | none => rfl
  | some x => rfl
theorem typeS_bare (h : Hd) : typeS (bare h) = typeS h := rfl
theorem ex_bare (n : Nat) (h : Hd) (K : List Rc) : exS n (bare h) (K.map bareR) = exS n h K := by
  have e1 : ((K.map bareR).drop 1).map (·.ex) = (K.drop 1).map (·.ex) := by
    rw [← List.map_drop, List.map_map]; rfl
  have hk : (bare h).kind = h.kind := rfl
  have ht : (bare h).text = h.text := rfl
  have hn : h.kind = 24 ∨ h.kind = 25 → (bare h).num = h.num := fun hh => by
    show (if counts h then h.num else 0) = h.num
    rw [if_pos (by unfold counts; rcases hh with e | e <;> simp [e])]
  unfold exS
  simp only [hk, ht, nth_bare, e1]
  by_cases c1 : h.kind = 24
  · simp only [c1, if_true, hn (.inl c1)]
  · by_cases c2 : h.kind = 25
    · simp only [c2, hn (.inr c2)]; simp
    · simp only [c1, c2, if_false]; rfl
theorem st_bare (n : Nat) (h : Hd) (ls : Bs) (K : List Rc) : stS n (bare h) ls (K.map bareR) = stS n h ls K := by
  have e1 : (K.map bareR).map (·.st) = K.map (·.st) := by rw [List.map_map]; rfl
  have e2 : ((K.map bareR).map fun r => T.tabs n ++ r.st) = K.map fun r => T.tabs n ++ r.st := by rw [List.map_map]; rfl
  have hk : (bare h).kind = h.kind := rfl
  have ht : (bare h).text = h.text := rfl
  unfold stS varS caseS
  simp only [hk, ht, nth_bare, e1, e2, List.length_map]
  rfl
theorem ls_bare (n : Nat) (K : List Rc) : T.linesS n (K.map bareR) = T.linesS n K := by
  unfold T.linesS; rw [List.map_map]; rfl
theorem rc_strip : ∀ (F : Fo) (n : Nat), rcF F.strip n = (rcF F n).map bareR
  | .nil, n => rfl
  | .cons h k r, n => by
    show mkR n (bare h) (rcF k.strip n) (rcF k.strip (n + 1)) :: rcF r.strip n = _
    rw [rc_strip k n, rc_strip k (n + 1), rc_strip r n, rcF_cons]
    unfold mkR
    rw [ex_bare, ls_bare, st_bare]
    rfl
theorem file_strip (F : Fo) : fileS F.strip = fileS F := by
  unfold fileS
  rw [rc_strip, List.map_map]
  rfl
/-- Two files have the same text exactly if they are the same without annotations. -/
theorem text_iff {F F' : Fo} (g : F.All Gz) (hA : F.All fun h k => declT h k = true) (g' : F'.All Gz) (hA' : F'.All fun h k => declT h k = true) : fileS F = fileS F' ↔ F.strip = F'.strip := by
  constructor
  · intro e
    have h1 := (file_toks g hA).1
    have h2 := (file_toks g' hA').1
    rw [e, h2] at h1
    have p1 := pFile_any F g hA (N F + N F' + 17) (by omega)
    have p2 := pFile_any F' g' hA' (N F + N F' + 17) (by omega)
    rw [← h1, p2] at p1
    rw [← of_trs F, ← of_trs F', Option.some.inj p1]
  · intro e
    rw [← file_strip F, ← file_strip F', e]
end Go.Proofs.YticbcnhbpbaocaaGreatDoor.Z
