/-
  Two programs whose texts agree (chapter 9, P9.4): plain mathematics. No program text is reached here.
  Two valid programs whose names hold neither blanks nor line feeds have one text exactly if they differ at most in the main function and in offsets (P9.4): plain mathematics.
  The walk of the specification's With.
  Rows of structs in memory of the call's own: how they are kept while one of them grows.
  The walk of the specification's Copy.
  What stands while Copy works.
  A copied program whose operand is set.
  A program in memory of the call's own, whose instructions' offsets may be set.
-/
import Derived.Test.YtekfhgldebhigaaDoorTA
import Derived.Test.YtekfhgldebhigaaDoorMF
import Derived.Test.YtekfhgldebhigaaDoorEE
import Derived.Deep.RegionLaw
import Derived.Deep.RegionHeld3
import Derived.Test.YtekfhgldebhigaaDoorMC
import Derived.Laws.OwnMore
set_option linter.all false
namespace Go.Proofs.YtekfhgldebhigaaDoor.C
open Go Go.RowKit
theorem sep_inj {c : UInt8} : ∀ {x y R S : Bs}, c ∉ x → c ∉ y → (R = [] ∨ ∃ t, R = c :: t) → (S = [] ∨ ∃ t, S = c :: t) → x ++ R = y ++ S → x = y ∧ R = S := by
  intro x
  induction x with
  | nil =>
    intro y R S _ hy hR hS h
    cases y with
    | nil => exact ⟨rfl, h⟩
    | cons b y =>
      rcases hR with rfl | ⟨t, rfl⟩
      · cases h
      · simp only [List.nil_append, List.cons_append] at h
        injection h with h1 _
        exact absurd (by rw [h1]; exact List.mem_cons_self) hy
  | cons a x ih =>
    intro y R S hx hy hR hS h
    cases y with
    | nil =>
      rcases hS with rfl | ⟨t, rfl⟩
      · cases h
      · simp only [List.nil_append, List.cons_append] at h
        injection h with h1 _
        exact absurd (by rw [← h1]; exact List.mem_cons_self) hx
    | cons b y =>
      simp only [List.cons_append] at h
      injection h with h1 h2
      obtain ⟨e1, e2⟩ := ih (fun m => hx (List.mem_cons_of_mem _ m)) (fun m => hy (List.mem_cons_of_mem _ m)) hR hS h2
      exact ⟨by rw [h1, e1], e2⟩
theorem blanks_head (xs : List Bs) : xs.flatMap (fun x => 32 :: x) = [] ∨ ∃ t, xs.flatMap (fun x => 32 :: x) = 32 :: t := by
  cases xs with
  | nil => exact .inl rfl
  | cons a l => exact .inr ⟨_, rfl⟩
theorem blanks_inj : ∀ {xs ys : List Bs}, (∀ x ∈ xs, (32 : UInt8) ∉ x) → (∀ y ∈ ys, (32 : UInt8) ∉ y) → xs.flatMap (fun x => 32 :: x) = ys.flatMap (fun x => 32 :: x) → xs = ys := by
  intro xs
  induction xs with
  | nil => intro ys _ _ h; cases ys with
    | nil => rfl
    | cons b ys => cases h
  | cons a xs ih =>
    intro ys hx hy h
    cases ys with
    | nil => cases h
    | cons b ys =>
      simp only [List.flatMap_cons, List.cons_append] at h
      injection h with _ h
      obtain ⟨e1, e2⟩ := sep_inj (hx a List.mem_cons_self) (hy b List.mem_cons_self) (blanks_head xs) (blanks_head ys) h
      rw [e1, ih (fun x m => hx x (List.mem_cons_of_mem _ m)) (fun y m => hy y (List.mem_cons_of_mem _ m)) e2]
/-- A line: not empty, its pieces free of blanks and line feeds. -/
def Good (l : List Bs) : Prop := l ≠ [] ∧ ∀ x ∈ l, (32 : UInt8) ∉ x ∧ (10 : UInt8) ∉ x
def bodyL : List Bs → Bs
  | [] => []
  | c :: cs => c ++ cs.flatMap (fun x => 32 :: x)
theorem lineB_body {l : List Bs} (h : Good l) : lineB l = bodyL l ++ [10] := by
  cases l with
  | nil => exact absurd rfl h.1
  | cons c cs => rw [lineB_cons]; simp [bodyL]
theorem body_nl {l : List Bs} (h : Good l) : (10 : UInt8) ∉ bodyL l := by
  cases l with
  | nil => simp [bodyL]
  | cons c cs =>
    intro hm
    rcases List.mem_append.1 hm with e | e
    · exact (h.2 c List.mem_cons_self).2 e
    · obtain ⟨x, hx, e2⟩ := List.mem_flatMap.1 e
      rcases List.mem_cons.1 e2 with e3 | e3
      · cases e3
      · exact (h.2 x (List.mem_cons_of_mem _ hx)).2 e3
theorem body_inj {l m : List Bs} (hl : Good l) (hm : Good m) (h : bodyL l = bodyL m) : l = m := by
  cases l with
  | nil => exact absurd rfl hl.1
  | cons c cs =>
    cases m with
    | nil => exact absurd rfl hm.1
    | cons d ds =>
      obtain ⟨e1, e2⟩ := sep_inj (hl.2 c List.mem_cons_self).1 (hm.2 d List.mem_cons_self).1 (blanks_head cs) (blanks_head ds) h
      rw [e1, blanks_inj (fun x hx => (hl.2 x (List.mem_cons_of_mem _ hx)).1) (fun x hx => (hm.2 x (List.mem_cons_of_mem _ hx)).1) e2]
theorem lines_inj : ∀ {ls ms : List (List Bs)}, (∀ l ∈ ls, Good l) → (∀ m ∈ ms, Good m) → ls.flatMap lineB = ms.flatMap lineB → ls = ms := by
  intro ls
  induction ls with
  | nil =>
    intro ms _ hm h
    cases ms with
    | nil => rfl
    | cons m ms =>
      rw [List.flatMap_cons, lineB_body (hm m List.mem_cons_self)] at h
      have := congrArg List.length h
      simp at this
  | cons l ls ih =>
    intro ms hl hm h
    cases ms with
    | nil =>
      rw [List.flatMap_cons, lineB_body (hl l List.mem_cons_self)] at h
      have := congrArg List.length h
      simp at this
    | cons m ms =>
      have gl := hl l List.mem_cons_self
      have gm := hm m List.mem_cons_self
      rw [List.flatMap_cons, List.flatMap_cons, lineB_body gl, lineB_body gm, List.append_assoc, List.append_assoc] at h
      obtain ⟨e1, e2⟩ := sep_inj (body_nl gl) (body_nl gm) (.inr ⟨_, rfl⟩) (.inr ⟨_, rfl⟩) h
      injection e2 with _ e2
      rw [body_inj gl gm e1, ih (fun x m => hl x (List.mem_cons_of_mem _ m)) (fun x h => hm x (List.mem_cons_of_mem _ h)) e2]
/-! ### numerals -/
def dval (l : Bs) : Nat := l.foldl (fun a b => a * 10 + (b.toNat - 48)) 0
theorem dval_snoc (l : Bs) (b : UInt8) : dval (l ++ [b]) = dval l * 10 + (b.toNat - 48) := by simp [dval, List.foldl_append]
theorem dig_nat {k : Nat} (h : k < 10) : (UInt8.ofNat (48 + k)).toNat = 48 + k := by simp [UInt8.toNat_ofNat]; omega
theorem dval_digits (u : Nat) : dval (Lib.decDigits u) = u := by
  induction u using Nat.strongRecOn with
  | _ u ih =>
    rw [Lib.decDigits]
    by_cases h : u < 10
    · rw [dif_pos h]
      simp only [dval, List.foldl_cons, List.foldl_nil]
      rw [dig_nat h]; omega
    · rw [dif_neg h, dval_snoc, ih (u / 10) (by omega), dig_nat (by omega)]; omega
theorem digits_mem (u : Nat) : ∀ b ∈ Lib.decDigits u, 48 ≤ b.toNat ∧ b.toNat ≤ 57 := by
  induction u using Nat.strongRecOn with
  | _ u ih =>
    intro b hb
    rw [Lib.decDigits] at hb
    by_cases h : u < 10
    · rw [dif_pos h] at hb
      rw [List.mem_singleton.1 hb, dig_nat h]; omega
    · rw [dif_neg h] at hb
      rcases List.mem_append.1 hb with e | e
      · exact ih (u / 10) (by omega) b e
      · rw [List.mem_singleton.1 e, dig_nat (k := u % 10) (by omega)]; omega
theorem itoa_mem (n : Int) : ∀ b ∈ Lib.itoa n, b.toNat = 45 ∨ (48 ≤ b.toNat ∧ b.toNat ≤ 57) := by
  intro b hb
  unfold Lib.itoa at hb
  by_cases h : n < 0
  · rw [if_pos h] at hb
    rcases List.mem_cons.1 hb with rfl | e
    · exact .inl rfl
    · exact .inr (digits_mem _ b e)
  · rw [if_neg h] at hb
    exact .inr (digits_mem _ b hb)
theorem itoa_good (n : Int) : (32 : UInt8) ∉ Lib.itoa n ∧ (10 : UInt8) ∉ Lib.itoa n := by
  constructor <;> intro h <;> (have := itoa_mem n _ h; simp at this)
theorem itoa_inj {m n : Int} (h : Lib.itoa m = Lib.itoa n) : m = n := by
  have neg : ∀ (u v : Nat), 45 :: Lib.decDigits u = Lib.decDigits v → False := fun u v e => by
    have := digits_mem v 45 (by rw [← e]; exact List.mem_cons_self)
    simp at this
  unfold Lib.itoa at h
  by_cases hm : m < 0
  · rw [if_pos hm] at h
    by_cases hn : n < 0
    · rw [if_pos hn] at h
      injection h with _ h
      have := congrArg dval h
      rw [dval_digits, dval_digits] at this
      omega
    · rw [if_neg hn] at h
      exact (neg _ _ h).elim
  · rw [if_neg hm] at h
    by_cases hn : n < 0
    · rw [if_pos hn] at h
      exact (neg _ _ h.symm).elim
    · rw [if_neg hn] at h
      have := congrArg dval h
      rw [dval_digits, dval_digits] at this
      omega
end Go.Proofs.YtekfhgldebhigaaDoor.C

namespace Go.Proofs.YtekfhgldebhigaaDoor.C
open Go Go.RowKit
def nameOk (s : ByteArray) : Prop := (32 : UInt8) ∉ s.data.toList ∧ (10 : UInt8) ∉ s.data.toList
structure NamesOk (p : Pg) : Prop where
  g : ∀ g ∈ p.globals, nameOk g.name
  f : ∀ f ∈ p.funcs, nameOk f.name
def stripI (x : In) : In := { x with at' := 0 }
def stripF (f : Fc) : Fc := { f with code := f.code.map stripI }
def plainP (p : Pg) : Pg := { p with funcs := p.funcs.map stripF, main := 0 }
/-- What a valid instruction keeps: an operation that is there, zero where no role is. -/
def Vx (x : In) : Prop := 1 ≤ x.op ∧ x.op ≤ 52 ∧ ∀ q0 q1 q2, roles x.op = [q0, q1, q2] → (q0 = 45 → x.a = 0) ∧ (q1 = 45 → x.b = 0) ∧ (q2 = 45 → x.c = 0)
theorem opB_zero {p : Pg} {f : Fc} {x : In} {v : Int} (h : operandB p f x 45 v = true) : v = 0 := by
  unfold operandB at h
  simpa using h
theorem vx_of {p : Pg} {f : Fc} {x : In} (h : instrB p f x = true) : Vx x := by
  obtain ⟨h1, h2⟩ := op_range h
  obtain ⟨r0, r1, r2, er, _, a0, a1, a2, _⟩ := instr_parts h
  refine ⟨h1, h2, fun q0 q1 q2 eq => ?_⟩
  rw [er] at eq
  injection eq with e0 eq
  injection eq with e1 eq
  injection eq with e2 eq
  subst e0 e1 e2
  exact ⟨fun e => opB_zero (by rw [e] at a0; exact a0), fun e => opB_zero (by rw [e] at a1; exact a1), fun e => opB_zero (by rw [e] at a2; exact a2)⟩
theorem three {op : Int} (h1 : 1 ≤ op) (h2 : op ≤ 52) : ∃ q0 q1 q2, roles op = [q0, q1, q2] := by
  have key : ∀ i : Fin 53, 1 ≤ i.val → (roles (i.val : Int)).length = 3 := by decide
  have := key ⟨op.toNat, by omega⟩ (by simp; omega)
  rw [show ((⟨op.toNat, by omega⟩ : Fin 53).val : Int) = op by simp; omega] at this
  match h : roles op, this with
  | [q0, q1, q2], _ => exact ⟨q0, q1, q2, rfl⟩
theorem word_at {op : Int} (h1 : 1 ≤ op) (h2 : op ≤ 52) : wordT op = words.getD op.toNat [] := by unfold wordT; rw [if_neg (by omega)]
theorem word_good {op : Int} (h1 : 1 ≤ op) (h2 : op ≤ 52) : (32 : UInt8) ∉ wordT op ∧ (10 : UInt8) ∉ wordT op := by
  rw [word_at h1 h2]
  have key : ∀ i : Fin 53, (32 : UInt8) ∉ words.getD i.val [] ∧ (10 : UInt8) ∉ words.getD i.val [] := by decide +kernel
  exact key ⟨op.toNat, by omega⟩
theorem word_inj {a b : Int} (a1 : 1 ≤ a) (a2 : a ≤ 52) (b1 : 1 ≤ b) (b2 : b ≤ 52) (h : wordT a = wordT b) : a = b := by
  rw [word_at a1 a2, word_at b1 b2] at h
  have key : ∀ i j : Fin 53, words.getD i.val [] = words.getD j.val [] → i = j := by decide +kernel
  have := congrArg Fin.val (key ⟨a.toNat, by omega⟩ ⟨b.toNat, by omega⟩ h)
  simp only at this
  omega
theorem map_inj {α β : Type} {f : α → β} (hf : ∀ a b, f a = f b → a = b) : ∀ {l m : List α}, l.map f = m.map f → l = m := by
  intro l
  induction l with
  | nil => intro m h; cases m with
    | nil => rfl
    | cons _ _ => cases h
  | cons a l ih =>
    intro m h
    cases m with
    | nil => cases h
    | cons b m =>
      simp only [List.map_cons] at h
      injection h with h1 h2
      rw [hf _ _ h1, ih h2]
theorem used_q {x : In} {q0 q1 q2 : UInt8} (h : roles x.op = [q0, q1, q2]) : usedT x = (if q0 = 45 then [] else [x.a]) ++ ((if q1 = 45 then [] else [x.b]) ++ (if q2 = 45 then [] else [x.c])) := by
  unfold usedT
  rw [h]
  simp only [maskT, List.map_cons, List.map_nil, usedM]
  by_cases e0 : q0 = 45 <;> by_cases e1 : q1 = 45 <;> by_cases e2 : q2 = 45 <;> simp [e0, e1, e2]
theorem inL_inj {k : Nat} {x y : In} (hx : Vx x) (hy : Vx y) (h : inL k x = inL k y) : stripI x = stripI y := by
  unfold inL at h
  injection h with _ h
  injection h with hw hu
  have ho := word_inj hx.1 hx.2.1 hy.1 hy.2.1 hw
  have hu2 := map_inj (fun a b => itoa_inj) hu
  obtain ⟨q0, q1, q2, hq⟩ := three hx.1 hx.2.1
  obtain ⟨z0, z1, z2⟩ := hx.2.2 _ _ _ hq
  obtain ⟨u0, u1, u2⟩ := hy.2.2 _ _ _ (by rw [← ho]; exact hq)
  rw [used_q hq, used_q (x := y) (by rw [← ho]; exact hq)] at hu2
  have key : x.a = y.a ∧ x.b = y.b ∧ x.c = y.c := by
    by_cases e0 : q0 = 45 <;> by_cases e1 : q1 = 45 <;> by_cases e2 : q2 = 45 <;> simp [e0, e1, e2] at hu2 z0 z1 z2 u0 u1 u2 <;> simp_all
  obtain ⟨k0, k1, k2⟩ := key
  unfold stripI
  rw [ho, k0, k1, k2]
theorem code_inj : ∀ {l m : List In} {k : Nat}, (∀ x ∈ l, Vx x) → (∀ x ∈ m, Vx x) → codeLs k l = codeLs k m → l.map stripI = m.map stripI := by
  intro l
  induction l with
  | nil => intro m k _ _ h; cases m with
    | nil => rfl
    | cons _ _ => cases h
  | cons a l ih =>
    intro m k hl hm h
    cases m with
    | nil => cases h
    | cons b m =>
      have h' : inL k a :: codeLs (k + 1) l = inL k b :: codeLs (k + 1) m := h
      injection h' with h1 h2
      rw [List.map_cons, List.map_cons, inL_inj (hl a List.mem_cons_self) (hm b List.mem_cons_self) h1, ih (fun x hx => hl x (List.mem_cons_of_mem _ hx)) (fun x hx => hm x (List.mem_cons_of_mem _ hx)) h2]
def isCode : List Bs → Bool
  | (b :: _) :: _ => b == 9
  | _ => false
theorem code_is : ∀ (l : List In) (k : Nat), ∀ x ∈ codeLs k l, isCode x = true := by
  intro l
  induction l with
  | nil => intro k x hx; cases hx
  | cons a l ih =>
    intro k x hx
    rcases List.mem_cons.1 (show x ∈ inL k a :: codeLs (k + 1) l from hx) with rfl | e
    · rfl
    · exact ih _ x e
theorem funcs_head (fs : List Fc) : (fs.flatMap fnLs).takeWhile isCode = [] := by
  cases fs with
  | nil => rfl
  | cons f fs => rfl
theorem funcs_drop (fs : List Fc) : (fs.flatMap fnLs).dropWhile isCode = fs.flatMap fnLs := by
  cases fs with
  | nil => rfl
  | cons f fs => rfl
theorem name_inj {a b : ByteArray} (h : a.data.toList = b.data.toList) : a = b := ByteArray.ext (Array.toList_inj.1 h)
theorem funcs_inj : ∀ {fs gs : List Fc}, (∀ f ∈ fs, ∀ x ∈ f.code, Vx x) → (∀ f ∈ gs, ∀ x ∈ f.code, Vx x) → fs.flatMap fnLs = gs.flatMap fnLs → fs.map stripF = gs.map stripF := by
  intro fs
  induction fs with
  | nil => intro gs _ _ h; cases gs with
    | nil => rfl
    | cons _ _ => cases h
  | cons f fs ih =>
    intro gs hf hg h
    cases gs with
    | nil => cases h
    | cons g gs =>
      have h' : fnL f :: (codeLs 0 f.code ++ fs.flatMap fnLs) = fnL g :: (codeLs 0 g.code ++ gs.flatMap fnLs) := h
      injection h' with h1 h2
      have t1 := congrArg (List.takeWhile isCode) h2
      have t2 := congrArg (List.dropWhile isCode) h2
      rw [List.takeWhile_append_of_pos (code_is _ _), List.takeWhile_append_of_pos (code_is _ _), funcs_head, funcs_head, List.append_nil, List.append_nil] at t1
      rw [List.dropWhile_append_of_pos (code_is _ _), List.dropWhile_append_of_pos (code_is _ _), funcs_drop, funcs_drop] at t2
      have e1 := code_inj (hf f List.mem_cons_self) (hg g List.mem_cons_self) t1
      have e2 := ih (fun x hx => hf x (List.mem_cons_of_mem _ hx)) (fun x hx => hg x (List.mem_cons_of_mem _ hx)) t2
      unfold fnL at h1
      injection h1 with _ h1
      injection h1 with n1 h1
      injection h1 with n2 h1
      injection h1 with n3 _
      rw [List.map_cons, List.map_cons, e2]
      unfold stripF
      rw [name_inj n1, itoa_inj n2, itoa_inj n3, e1]
/-! ### the whole -/
theorem good_gl {g : Gl} (h : nameOk g.name) : Good (glL g) := ⟨by simp [glL], fun x hx => by
  rcases (by simpa [glL] using hx : x = [103, 108, 111, 98, 97, 108] ∨ x = g.name.data.toList ∨ x = Lib.itoa g.kind) with rfl | rfl | rfl
  · decide
  · exact h
  · exact itoa_good _⟩
theorem good_ly (l : List Int) : Good (lyL l) := ⟨by simp [lyL], fun x hx => by
  rcases List.mem_cons.1 hx with rfl | hx
  · decide
  · obtain ⟨n, _, rfl⟩ := List.mem_map.1 hx
    exact itoa_good _⟩
theorem good_fn {f : Fc} (h : nameOk f.name) : Good (fnL f) := ⟨by simp [fnL], fun x hx => by
  rcases (by simpa [fnL] using hx : x = [102, 117, 110, 99] ∨ x = f.name.data.toList ∨ x = Lib.itoa f.params ∨ x = Lib.itoa f.regs) with rfl | rfl | rfl | rfl
  · decide
  · exact h
  · exact itoa_good _
  · exact itoa_good _⟩
theorem good_in {k : Nat} {x : In} (h : Vx x) : Good (inL k x) := ⟨by simp [inL], fun y hy => by
  rcases List.mem_cons.1 hy with rfl | hy
  · constructor
    · intro e
      rcases List.mem_cons.1 e with e | e
      · cases e
      · exact (itoa_good _).1 e
    · intro e
      rcases List.mem_cons.1 e with e | e
      · cases e
      · exact (itoa_good _).2 e
  · rcases List.mem_cons.1 hy with rfl | hy
    · exact word_good h.1 h.2.1
    · obtain ⟨n, _, rfl⟩ := List.mem_map.1 hy
      exact itoa_good _⟩
theorem good_code : ∀ {l : List In} {k : Nat}, (∀ x ∈ l, Vx x) → ∀ y ∈ codeLs k l, Good y := by
  intro l
  induction l with
  | nil => intro k _ y hy; cases hy
  | cons a l ih =>
    intro k h y hy
    rcases List.mem_cons.1 (show y ∈ inL k a :: codeLs (k + 1) l from hy) with rfl | e
    · exact good_in (h a List.mem_cons_self)
    · exact ih (fun x hx => h x (List.mem_cons_of_mem _ hx)) y e
theorem good_lines {p : Pg} (hn : NamesOk p) (hv : ∀ f ∈ p.funcs, ∀ x ∈ f.code, Vx x) : ∀ l ∈ linesOf p, Good l := by
  intro l hl
  rcases List.mem_append.1 hl with e | e
  · obtain ⟨g, hg, rfl⟩ := List.mem_map.1 e
    exact good_gl (hn.g g hg)
  · rcases List.mem_append.1 e with e | e
    · obtain ⟨g, _, rfl⟩ := List.mem_map.1 e
      exact good_ly g
    · obtain ⟨f, hf, e2⟩ := List.mem_flatMap.1 e
      rcases List.mem_cons.1 (show l ∈ fnL f :: codeLs 0 f.code from e2) with rfl | e3
      · exact good_fn (hn.f f hf)
      · exact good_code (hv f hf) l e3
def isG (l : List Bs) : Bool := l.head? == some [103, 108, 111, 98, 97, 108]
def isY (l : List Bs) : Bool := l.head? == some [108, 97, 121, 111, 117, 116]
theorem code_heads (t : Bs) (ht : t.head? ≠ some 9) : ∀ (l : List In) (k : Nat), ∀ x ∈ codeLs k l, (x.head? == some t) = false := by
  intro l
  induction l with
  | nil => intro k x hx; cases hx
  | cons a l ih =>
    intro k x hx
    rcases List.mem_cons.1 (show x ∈ inL k a :: codeLs (k + 1) l from hx) with rfl | e
    · cases h : ((inL k a).head? == some t) with
      | false => rfl
      | true =>
        have h2 : (inL k a).head? = some t := by simpa using h
        have h3 : some (9 :: Lib.itoa (k : Int)) = some t := h2
        injection h3 with h3
        rw [← h3] at ht
        exact absurd rfl ht
    · exact ih _ x e
theorem fn_heads (t : Bs) (ht : t.head? ≠ some 9) (hf : t ≠ [102, 117, 110, 99]) (fs : List Fc) : ∀ x ∈ fs.flatMap fnLs, (x.head? == some t) = false := by
  intro x hx
  obtain ⟨f, _, e⟩ := List.mem_flatMap.1 hx
  rcases List.mem_cons.1 (show x ∈ fnL f :: codeLs 0 f.code from e) with rfl | e
  · cases h : ((fnL f).head? == some t) with
    | false => rfl
    | true =>
      have h2 : (fnL f).head? = some t := by simpa using h
      have h3 : some ([102, 117, 110, 99] : Bs) = some t := h2
      injection h3 with h3
      exact absurd h3.symm hf
  · exact code_heads t ht _ _ x e
theorem split_by {α : Type} {P : α → Bool} {a b R S : List α} (ha : ∀ x ∈ a, P x = true) (hb : ∀ x ∈ b, P x = true) (hR : ∀ x ∈ R, P x = false) (hS : ∀ x ∈ S, P x = false) (h : a ++ R = b ++ S) : a = b ∧ R = S := by
  have f1 := congrArg (List.filter P) h
  have f2 := congrArg (List.filter fun x => !P x) h
  rw [List.filter_append, List.filter_append, List.filter_eq_self.2 ha, List.filter_eq_self.2 hb, List.filter_eq_nil_iff.2 (fun x hx => by rw [hR x hx]; simp), List.filter_eq_nil_iff.2 (fun x hx => by rw [hS x hx]; simp), List.append_nil, List.append_nil] at f1
  rw [List.filter_append, List.filter_append, List.filter_eq_nil_iff.2 (fun x hx => by rw [ha x hx]; simp), List.filter_eq_self.2 (fun x hx => by rw [hR x hx]; rfl), List.filter_eq_nil_iff.2 (fun x hx => by rw [hb x hx]; simp), List.filter_eq_self.2 (fun x hx => by rw [hS x hx]; rfl), List.nil_append, List.nil_append] at f2
  exact ⟨f1, f2⟩
theorem lines_plain {p q : Pg} (hp : ∀ f ∈ p.funcs, ∀ x ∈ f.code, Vx x) (hq : ∀ f ∈ q.funcs, ∀ x ∈ f.code, Vx x) (h : linesOf p = linesOf q) : plainP p = plainP q := by
  have gr : ∀ r : Pg, ∀ x ∈ r.layouts.map lyL ++ r.funcs.flatMap fnLs, isG x = false := fun r x hx => by
    rcases List.mem_append.1 hx with e | e
    · obtain ⟨l, _, rfl⟩ := List.mem_map.1 e; rfl
    · exact fn_heads _ (by decide) (by decide) _ x e
  obtain ⟨e1, e2⟩ := split_by (P := isG) (fun x hx => by obtain ⟨g, _, rfl⟩ := List.mem_map.1 hx; rfl) (fun x hx => by obtain ⟨g, _, rfl⟩ := List.mem_map.1 hx; rfl) (gr p) (gr q) h
  obtain ⟨e3, e4⟩ := split_by (P := isY) (fun x hx => by obtain ⟨g, _, rfl⟩ := List.mem_map.1 hx; rfl) (fun x hx => by obtain ⟨g, _, rfl⟩ := List.mem_map.1 hx; rfl) (fn_heads _ (by decide) (by decide) _) (fn_heads _ (by decide) (by decide) _) e2
  have g1 : p.globals = q.globals := map_inj (f := glL) (fun a b e => by
    obtain ⟨n, k⟩ := a
    obtain ⟨n', k'⟩ := b
    unfold glL at e
    injection e with _ e
    injection e with e1 e
    injection e with e2 _
    have h1 : n = n' := name_inj e1
    have h2 : k = k' := itoa_inj e2
    rw [h1, h2]) e1
  have g2 : p.layouts = q.layouts := map_inj (f := lyL) (fun a b e => by
    unfold lyL at e
    injection e with _ e
    exact map_inj (fun a b => itoa_inj) e) e3
  have g3 := funcs_inj hp hq e4
  unfold plainP
  rw [g1, g2, g3]
theorem usedM_strip (m : List Bool) (a : In) : usedM m (stripI a) = usedM m a := by
  rcases m with _ | ⟨m0, _ | ⟨m1, _ | ⟨m2, _ | ⟨m3, r⟩⟩⟩⟩ <;> rfl
theorem inL_strip (k : Nat) (a : In) : inL k (stripI a) = inL k a := by
  show (9 :: Lib.itoa (k : Int)) :: wordT a.op :: (usedM (maskT (roles a.op)) (stripI a)).map Lib.itoa = _
  rw [usedM_strip]; rfl
theorem codeLs_strip : ∀ (l : List In) (k : Nat), codeLs k (l.map stripI) = codeLs k l := by
  intro l
  induction l with
  | nil => intro k; rfl
  | cons a l ih => intro k; show inL k (stripI a) :: codeLs (k + 1) (l.map stripI) = inL k a :: codeLs (k + 1) l; rw [ih, inL_strip]
theorem lines_strip (p : Pg) : linesOf (plainP p) = linesOf p := by
  unfold linesOf plainP
  congr 2
  simp only [List.flatMap_map]
  congr 1
  funext f
  show fnL f :: codeLs 0 (f.code.map stripI) = fnL f :: codeLs 0 f.code
  rw [codeLs_strip]
theorem text_iff {p q : Pg} (hp : validB p = true) (hq : validB q = true) (np : NamesOk p) (nq : NamesOk q) : textT p = textT q ↔ plainP p = plainP q := by
  have vx : ∀ {r : Pg}, validB r = true → ∀ f ∈ r.funcs, ∀ x ∈ f.code, Vx x := fun {r} hv f hf x hx => by
    obtain ⟨i, hi, rfl⟩ := List.getElem_of_mem hx
    exact vx_of (seq_at r f f.code 0 (valid_fn hv hf).seq i hi).1
  constructor
  · intro h
    exact lines_plain (vx hp) (vx hq) (lines_inj (good_lines np (vx hp)) (good_lines nq (vx hq)) h)
  · intro h
    unfold textT
    rw [← lines_strip p, ← lines_strip q, h]
end Go.Proofs.YtekfhgldebhigaaDoor.C

namespace Go.Proofs.YtekfhgldebhigaaDoor
open Go.RowKit C
/-- An append of nothing, as one step of a region that draws. -/
theorem step_append_same {P : Program} (w : World) {ops : Array Oper} {o : Oper} {a : Act} {K : Act → World → Prop} {Q : Exit → Act → World → Prop} {E : Prop} (hgd : o.guard = none) (s x : Operand) (t : TypeId)
    (ho : o.op = .call { callee := .builtin .append, args := #[s, x], argTypes := #[t, t] })
    (base : Nat) (e : TypeId) (i : TypeInfo) (size : Nat) (ht : P.underlying t = some (.slice e)) (hi : P.info? e = some i) (hsize : i.size = size) (v : Value) (n : Nat) (xs : List Value) (hs : a.eval s = v) (hown : w.ownsRow base e size v n xs)
    (A : Option Addr) (m c : Nat) (hm : m = 0) (hx : a.eval x = .slice A m c)
    (h : K (a.put o.dst v) w) : if Region.wanted o (yielded ops a.tmps) = true then Oper.wp P o a w K Q else E := by
  have hw : Region.wanted o (yielded ops a.tmps) = true := by simp [Region.wanted, hgd]
  rw [if_pos hw]
  subst hm
  have hrun : (Builtin.append_ #[t, t] o.type #[v, .slice A 0 c]).run P w = .ok v w := by
    subst hsize
    rcases hown.2 with ⟨rfl, rfl⟩ | ⟨g, cap, cur, rfl, _, _, hnc, _⟩
    · cases A <;> simp [Builtin.append_, run_underlying ht, sizeOf, typeInfo, hi, Builtin.lenOf, Builtin.firstCells, loadCells, loadCellsFrom]
    · cases A <;> simp [Builtin.append_, run_underlying ht, sizeOf, typeInfo, hi, Builtin.lenOf, Builtin.firstCells, hnc, storeCells, loadCells, loadCellsFrom]
  unfold Oper.wp execOp
  simp only [ho, resolve, invoke, builtin, Sem.run_bind, Sem.run_pure, Result.andThen_ok, List.map_toArray, List.map_cons, List.map_nil, hs, hx, hrun]
  exact h
theorem own_e {W : World} {B base : Nat} {t : TypeId} {size : Nat} (h : W.heap[B]? = some (.cells #[] t)) (hB : base ≤ B) : W.ownsRow base t size (.slice (some ⟨B, 0, none⟩) 0 0) 0 [] :=
  ⟨by simp, .inr ⟨B, 0, #[], rfl, hB, h, Nat.le_refl _, Nat.zero_le _, by simp, by simp⟩⟩
theorem heap2a (w : World) (o1 o2 : Obj) : ((w.alloc o1).alloc o2).heap[w.heap.size]? = some o1 := by
  have b := Below.refl (w.alloc o1).heap.size (w.alloc o1) |>.alloc (Nat.le_refl _) o2
  exact (b.block _ (by simp)).trans (heap_alloc_new w o1)
theorem addr_add (g o t : Nat) : (⟨g, o, none⟩ : Addr).add t = ⟨g, o + t, none⟩ := by unfold Addr.add; split <;> simp_all
theorem row_take {g o : Nat} {l : List Int} {w W : World} (h : ∀ i (h : i < l.length), IntAt w l[i] g (o + i * 1)) (hb : Below w.heap.size w W) (j : Nat) : ∀ t u, ((l.take j).map (Value.int .i64))[t]? = some u → W.cell? ((⟨g, o, none⟩ : Addr).add t) = some u := by
  intro t u hu
  have ht : t < l.length ∧ t < j := by
    have := (List.getElem?_eq_some_iff.1 hu).1
    simp at this; omega
  have hx := ((h t ht.1).below hb).c0
  rw [Nat.mul_one] at hx
  have : u = .int .i64 l[t] := by
    rw [List.getElem?_map, List.getElem?_take, if_pos ht.2, List.getElem?_eq_getElem ht.1] at hu
    simpa using hu.symm
  rw [this, addr_add]; exact hx
theorem row_drop {g o : Nat} {l : List Int} {w W : World} (h : ∀ i (h : i < l.length), IntAt w l[i] g (o + i * 1)) (hb : Below w.heap.size w W) (j : Nat) : ∀ t u, ((l.drop j).map (Value.int .i64))[t]? = some u → W.cell? ((⟨g, o + j, none⟩ : Addr).add t) = some u := by
  intro t u hu
  have ht : j + t < l.length := by
    have := (List.getElem?_eq_some_iff.1 hu).1
    simp at this; omega
  have hx := ((h (j + t) ht).below hb).c0
  rw [Nat.mul_one] at hx
  have : u = .int .i64 l[j + t] := by
    rw [List.getElem?_map, List.getElem?_drop, List.getElem?_eq_getElem ht] at hu
    simpa using hu.symm
  rw [this, addr_add, Nat.add_assoc]; exact hx
theorem ints_one (zs : List Int) : ∀ u ∈ zs.map (Value.int .i64), u.oneCell' = true := by
  intro u hu
  obtain ⟨z, _, rfl⟩ := List.mem_map.1 hu
  rfl
theorem news_one {W : World} {B : Nat} {n : Int} (h : W.heap[B]? = some (.cells #[.int .i64 n] 3)) : ∀ t u, ([Value.int .i64 n])[t]? = some u → W.cell? ((⟨B, 0, none⟩ : Addr).add t) = some u := by
  intro t u hu
  have ht : t = 0 := by have := (List.getElem?_eq_some_iff.1 hu).1; simpa using this
  subst ht
  simp at hu
  subst hu
  simp [Addr.add, World.cell?, h]
end Go.Proofs.YtekfhgldebhigaaDoor

namespace Go.Proofs.YtekfhgldebhigaaDoor
open Go.RowKit C
theorem flat_len {α : Type} {cl : α → List Value} {k : Nat} (hk : ∀ x, (cl x).length = k) (l : List α) : ((l.map cl).flatten).length = l.length * k := by
  induction l with
  | nil => simp
  | cons a l ih => simp only [List.map_cons, List.flatten_cons, List.length_append, ih, hk, List.length_cons, Nat.succ_mul]; omega
theorem flat_at {α : Type} {cl : α → List Value} {k : Nat} (hk : ∀ x, (cl x).length = k) : ∀ (l : List α) (i r : Nat) (hi : i < l.length), r < k → ((l.map cl).flatten)[i * k + r]? = (cl l[i])[r]?
  | [], _, _, hi, _ => by simp at hi
  | a :: l, 0, r, _, hr => by
    simp only [List.map_cons, List.flatten_cons, Nat.zero_mul, Nat.zero_add]
    rw [List.getElem?_append_left (by rw [hk]; exact hr)]; rfl
  | a :: l, i + 1, r, hi, hr => by
    simp only [List.map_cons, List.flatten_cons]
    rw [List.getElem?_append_right (by rw [hk, Nat.succ_mul]; omega), hk, show (i + 1) * k + r - k = i * k + r by rw [Nat.succ_mul]; omega, flat_at hk l i r (by simpa using hi) hr]
    rfl
theorem flat_news {α : Type} {cl : α → List Value} {k : Nat} (hk : ∀ x, (cl x).length = k) (hk0 : 0 < k) {g o : Nat} {W : World} (l : List α) (h : ∀ i (hi : i < l.length), ∀ r, r < k → W.cell? ⟨g, o + i * k + r, none⟩ = (cl l[i])[r]?) :
    ∀ j u, ((l.map cl).flatten)[j]? = some u → W.cell? ((⟨g, o, none⟩ : Addr).add j) = some u := by
  intro j u hu
  have hj := (List.getElem?_eq_some_iff.1 hu).1
  rw [flat_len hk] at hj
  have hi : j / k < l.length := Nat.div_lt_of_lt_mul (by rw [Nat.mul_comm]; exact hj)
  have hr : j % k < k := Nat.mod_lt _ hk0
  have e : j = j / k * k + j % k := by rw [Nat.mul_comm]; exact (Nat.div_add_mod j k).symm
  rw [addr_add]
  rw [e] at hu ⊢
  rw [flat_at hk l _ _ hi hr] at hu
  rw [← hu, ← h _ hi _ hr, Nat.add_assoc]
theorem own_cells {α : Type} {cl : α → List Value} {k : Nat} (hk : ∀ x, (cl x).length = k) {V : World} {base g cap : Nat} {t : TypeId} {l : List α} (h : V.ownsRow base t k (.slice (some ⟨g, 0, none⟩) l.length cap) l.length ((l.map cl).flatten)) :
    ∀ i (hi : i < l.length), ∀ r, r < k → V.cell? ⟨g, i * k + r, none⟩ = (cl l[i])[r]? := by
  intro i hi r hr
  rw [h.cellAt (i * k + r) (by have : (i + 1) * k ≤ l.length * k := Nat.mul_le_mul_right k hi; rw [Nat.succ_mul] at this; omega), flat_at hk l i r hi hr]
theorem grown_set (W : World) (b j : Nat) (v : Value) : W.grownBy (W.setCell ⟨b, j, none⟩ v) (some b) :=
  ⟨rfl, rfl, rfl, by simp, fun k _ hk => heap_setCell_other W ⟨b, j, none⟩ k v (fun e => hk (by simp [e]))⟩
theorem own_keepN {w w' : World} {base n sz : Nat} {e : TypeId} {v : Value} {xs : List Value} (h : w.ownsRow base e sz v n xs) (hb : Below w.heap.size w w') : w'.ownsRow base e sz v n xs :=
  h.kept (row := none) ⟨hb.os, hb.tape, hb.output, hb.size, fun k hk _ => hb.block k hk⟩ (by cases v.ownBlock <;> simp)
/-- A row of the call's own. -/
structure Rw where
  t : TypeId
  sz : Nat
  v : Value
  n : Nat
  xs : List Value
def Rw.own (r : Rw) (base : Nat) (V : World) : Prop := V.ownsRow base r.t r.sz r.v r.n r.xs
/-- A box, a row that grows, and rows that stand. -/
structure Cg (base ob : Nat) (X : Rw) (R : List Rw) (cells : Array Value) (V : World) : Prop where
  box : V.heap[ob]? = some (.cells cells 26)
  x : X.own base V
  xob : X.v.ownBlock ≠ some ob
  r : ∀ y ∈ R, y.own base V ∧ ∀ b, y.v.ownBlock = some b → b ≠ ob ∧ X.v.ownBlock ≠ some b
  pw : R.Pairwise fun a b => ∀ x, a.v.ownBlock = some x → b.v.ownBlock ≠ some x
theorem own_lt {base : Nat} {V : World} {y : Rw} (h : y.own base V) {b : Nat} (hb : y.v.ownBlock = some b) : b < V.heap.size := (World.ownsRow.lt h b hb).2
theorem Cg.step {base ob g : Nat} {X X' y : Rw} {R : List Rw} {cells : Array Value} {V V5 V6 : World} {j : Nat} (h : Cg base ob X R cells V) (h5 : Below V.heap.size V V5) (hy : y.own base V5) (hyb : ∀ b, y.v.ownBlock = some b → V.heap.size ≤ b)
    (hx : X'.own base V6) (hg : V5.grownBy V6 X.v.ownBlock) (hat : X.v.ownBlock = some g ∨ g = V5.heap.size) (hXb : X'.v.ownBlock = some g) :
    Cg base ob X' (y :: R) (cells.setIfInBounds j X'.v) (V6.setCell ⟨ob, j, none⟩ X'.v) := by
  have hob : ob < V.heap.size := (Array.getElem?_eq_some_iff.1 h.box).1
  have h5s := h5.size
  have hgob : g ≠ ob := by
    rcases hat with e | e
    · intro e2; subst e2; exact h.xob e
    · omega
  have hset := grown_set V6 ob j X'.v
  have all : ∀ r ∈ y :: R, r.own base V5 ∧ ∀ b, r.v.ownBlock = some b → b ≠ ob ∧ X.v.ownBlock ≠ some b := by
    intro r hr
    rcases List.mem_cons.1 hr with rfl | hr
    · refine ⟨hy, fun b hb => ⟨by have := hyb b hb; omega, fun e => ?_⟩⟩
      have h1 := own_lt h.x e
      have h2 := hyb b hb
      omega
    · obtain ⟨h1, h2⟩ := h.r r hr
      exact ⟨own_keepN h1 h5, h2⟩
  refine ⟨?_, ?_, by rw [hXb]; intro e; exact hgob (by simpa using e), fun r hr => ?_, ?_⟩
  · have e1 : V6.heap[ob]? = some (.cells cells 26) := by
      rw [hg.block ob (by omega) (fun e => h.xob e.symm), h5.block ob hob]; exact h.box
    simp [World.setCell, Array.getElem?_modify, e1]
  · exact World.ownsRow.kept hx hset (.inr (by rw [hXb]; intro e; exact hgob (by simpa using e)))
  · obtain ⟨h1, h2⟩ := all r hr
    refine ⟨World.ownsRow.kept (World.ownsRow.kept h1 hg ?_) hset ?_, fun b hb => ⟨(h2 b hb).1, ?_⟩⟩
    · cases hb : r.v.ownBlock with
      | none => exact .inl rfl
      | some b => exact .inr (by intro e; exact (h2 b hb).2 e.symm)
    · cases hb : r.v.ownBlock with
      | none => exact .inl rfl
      | some b => exact .inr (by intro e; exact (h2 b hb).1 (by simpa using e))
    · rw [hXb]
      intro e
      have e2 : g = b := by simpa using e
      subst e2
      rcases hat with e3 | e3
      · exact (h2 g hb).2 e3
      · have := own_lt h1 hb; omega
  · refine List.pairwise_cons.2 ⟨fun r hr x hx e => ?_, h.pw⟩
    have h1 := own_lt (h.r r hr).1 e
    have h2 := hyb x hx
    omega
/-- The blocks below stand. -/
theorem cg_old {base ob : Nat} {w : World} {V V5 V6 : World} {row : Option Nat} {j n : Nat} {v : Value} (hn : n < base) (hV : n < V.heap.size) (h5 : Below V.heap.size V V5) (hg : V5.grownBy V6 row) (hr : ∀ k, row = some k → base ≤ k) (hob : base ≤ ob) : (V6.setCell ⟨ob, j, none⟩ v).heap[n]? = V.heap[n]? := by
  have h5s := h5.size
  rw [(grown_set V6 ob j v).block n (by have := hg.size; omega) (fun e => by cases e; omega), hg.block n (by omega) (by intro e; have := hr n e.symm; omega), h5.block n hV]
theorem cg_bel {base ob : Nat} {w V V5 V6 : World} {row : Option Nat} {j : Nat} {v : Value} (h : Below w.heap.size w V) (h5 : Below V.heap.size V V5) (hg : V5.grownBy V6 row) (hb : w.heap.size ≤ base) (hr : ∀ k, row = some k → base ≤ k) (hob : base ≤ ob) : Below w.heap.size w (V6.setCell ⟨ob, j, none⟩ v) :=
  ((h.trans (h5.mono h.size)).grown hg (by have := h.size; have := h5.size; omega) (fun k hk => by have := hr k hk; omega)).grown (grown_set V6 ob j v) (by have := h.size; have := h5.size; have := hg.size; omega) (fun k hk => by cases hk; omega)
/-- What is appended to nothing. -/
theorem wpList_append_same {P : Program} (w : World) {ops : Array Oper} {rest : List Oper} {o : Oper} {a : Act} {Q : Exit → Act → World → Prop} (hgd : o.guard = none) (s x : Operand) (t : TypeId)
    (ho : o.op = .call { callee := .builtin .append, args := #[s, x], argTypes := #[t, t] })
    (base : Nat) (e : TypeId) (i : TypeInfo) (size : Nat) (ht : P.underlying t = some (.slice e)) (hi : P.info? e = some i) (hsize : i.size = size) (v : Value) (n : Nat) (xs : List Value) (hs : a.eval s = v) (hown : w.ownsRow base e size v n xs)
    (A : Option Addr) (m c : Nat) (hm : m = 0) (hx : a.eval x = .slice A m c)
    (h : wpList P ops Q rest (a.put o.dst v) w) : wpList P ops Q (o :: rest) a w :=
  wpList_plain hgd fun _ hK => by
    have hw : Region.wanted o (yielded ops a.tmps) = true := by simp [Region.wanted, hgd]
    have := step_append_same (P := P) (ops := ops) (K := fun a' w' => wpList P ops Q rest a' w') (Q := Q) (E := False) w hgd s x t ho base e i size ht hi hsize v n xs hs hown A m c hm hx h
    rw [if_pos hw] at this
    exact Oper.wp_mono (fun a' w' h' => hK a' w' h') this
theorem infoIn : (Tryd.prog.info? 34).map (fun i => (i.zero, i.size, i.bytes)) = some (some (.agg #[.int .i64 0, .int .i64 0, .int .i64 0, .int .i64 0, .int .i64 0]), 5, 40) := by kernel_rfl
theorem infoFn : (Tryd.prog.info? 37).map (fun i => (i.zero, i.size, i.bytes)) = some (some (.agg #[.string ⟨#[]⟩, .int .i64 0, .int .i64 0, .slice none 0 0]), 4, 56) := by kernel_rfl
theorem infoGl : (Tryd.prog.info? 45).map (fun i => (i.zero, i.size, i.bytes)) = some (some (.agg #[.string ⟨#[]⟩, .int .i64 0]), 2, 24) := by kernel_rfl
theorem infoLy : (Tryd.prog.info? 39).map (fun i => (i.zero, i.size, i.bytes)) = some (some (.slice none 0 0), 1, 24) := by kernel_rfl
abbrev glC (x : Gl) : List Value := [.string x.name, .int .i64 x.kind]
abbrev inC (x : In) : List Value := [.int .i64 x.op, .int .i64 x.a, .int .i64 x.b, .int .i64 x.c, .int .i64 x.at']
abbrev fnC (y : Fc × Value) : List Value := [.string y.1.name, .int .i64 y.1.params, .int .i64 y.1.regs, y.2]
abbrev lyC (y : List Int × Value) : List Value := [y.2]
abbrev pb (p : Pg) (A B D : Option Addr) (ca cb cd : Nat) : Array Value := #[.slice A p.funcs.length ca, .slice B p.globals.length cb, .slice D p.layouts.length cd, .int .i64 p.main]
theorem cells4 {w : World} {b : Nat} {a0 a1 a2 a3 : Value} {t : TypeId} (h : w.heap[b]? = some (.cells #[a0, a1, a2, a3] t (0, 0))) : (w.cell? ⟨b, 0, none⟩ = some a0 ∧ w.cell? ⟨b, 1, none⟩ = some a1 ∧ w.cell? ⟨b, 2, none⟩ = some a2 ∧ w.cell? ⟨b, 3, none⟩ = some a3) ∧
    w.frozen? ⟨b, 0, none⟩ = false ∧ w.frozen? ⟨b, 1, none⟩ = false ∧ w.frozen? ⟨b, 2, none⟩ = false ∧ w.frozen? ⟨b, 3, none⟩ = false := by
  simp [World.cell?, World.frozen?, h]
theorem blk4 {w : World} {b : Nat} {a0 a1 a2 a3 b0 b1 b2 b3 : Value} {t : TypeId} (h : w.heap[b]? = some (.cells #[b0, b1, b2, b3] t (0, 0))) :
    ((((w.setCell ⟨b, 0, none⟩ a0).setCell ⟨b, 1, none⟩ a1).setCell ⟨b, 2, none⟩ a2).setCell ⟨b, 3, none⟩ a3).heap[b]? = some (.cells #[a0, a1, a2, a3] t (0, 0)) := by
  simp [World.setCell, Array.getElem?_modify, h]
theorem B1.setC {p : Pg} {A B D : Option Addr} {ca cb cd : Nat} {w V : World} {b j : Nat} {v : Value} (h : B1 p A B D ca cb cd w V) (hb : w.heap.size < b) : B1 p A B D ca cb cd w (V.setCell ⟨b, j, none⟩ v) := by
  have hV : w.heap.size + 1 ≤ V.heap.size := by
    obtain ⟨y0, _⟩ := h
    have := World.block_lt_of_cell? V _ y0
    simp only at this
    omega
  exact B1.grownK h (grown_set V b j v) hV (fun k hk => by cases hk; omega)
/-- Sizes that memory bears. -/
structure Sz (p : Pg) : Prop where
  f : p.funcs.length ≤ 1048576
  g : p.globals.length ≤ 1048576
  l : p.layouts.length ≤ 1048576
  c : ∀ f ∈ p.funcs, f.code.length ≤ 1048576
  r : ∀ l ∈ p.layouts, l.length ≤ 1048576
theorem news_row {α : Type} {k : Nat} {R : α → Nat → Nat → Prop} {cl : α → List Value} {W : World} (hk : ∀ x, (cl x).length = k) (hk0 : 0 < k) (H : ∀ x g o, R x g o → ∀ r, r < k → W.cell? ⟨g, o + r, none⟩ = (cl x)[r]?) {g o : Nat} {l : List α} (h : ∀ i (hi : i < l.length), R l[i] g (o + i * k)) :
    ∀ j u, ((l.map cl).flatten)[j]? = some u → W.cell? ((⟨g, o, none⟩ : Addr).add j) = some u := flat_news hk hk0 l fun i hi r hr => H _ _ _ (h i hi) r hr
theorem gl_cells {W : World} (x : Gl) (g o : Nat) (h : GlAt W x g o) : ∀ r, r < 2 → W.cell? ⟨g, o + r, none⟩ = (glC x)[r]?
  | 0, _ => h.c0
  | 1, _ => h.c1
  | r + 2, hr => absurd hr (by omega)
theorem in_cells {W : World} (x : In) (g o : Nat) (h : InAt W x g o) : ∀ r, r < 5 → W.cell? ⟨g, o + r, none⟩ = (inC x)[r]?
  | 0, _ => h.c0
  | 1, _ => h.c1
  | 2, _ => h.c2
  | 3, _ => h.c3
  | 4, _ => h.c4
  | r + 5, hr => absurd hr (by omega)
theorem int_cells {W : World} (x : Int) (g o : Nat) (h : IntAt W x g o) : ∀ r, r < 1 → W.cell? ⟨g, o + r, none⟩ = ([Value.int .i64 x])[r]?
  | 0, _ => h.c0
  | r + 1, hr => absurd hr (by omega)
theorem one_flat {α : Type} {cl : α → List Value} {l : List α} (h : ∀ x, ∀ u ∈ cl x, u.oneCell' = true) : ∀ u ∈ (l.map cl).flatten, u.oneCell' = true := by
  intro u hu
  obtain ⟨c, hc, huc⟩ := List.mem_flatten.1 hu
  obtain ⟨x, _, rfl⟩ := List.mem_map.1 hc
  exact h x u huc
theorem gl_one (x : Gl) : ∀ u ∈ glC x, u.oneCell' = true := by intro u hu; simp at hu; rcases hu with rfl | rfl <;> rfl
theorem in_one (x : In) : ∀ u ∈ inC x, u.oneCell' = true := by intro u hu; simp at hu; rcases hu with rfl | rfl | rfl | rfl | rfl <;> rfl
end Go.Proofs.YtekfhgldebhigaaDoor

namespace Go.Proofs.YtekfhgldebhigaaDoor
open Go.RowKit C
theorem top2 (W : World) (o1 o2 : Obj) : ((W.alloc o1).alloc o2).heap[W.heap.size]? = some o1 ∧ ((W.alloc o1).alloc o2).heap[W.heap.size + 1]? = some o2 := ⟨heap2a W o1 o2, heap2 W o1 o2⟩
theorem heap_new2 (w : World) (o1 o2 o3 : Obj) : (((w.alloc o1).alloc o2).alloc o3).heap[w.heap.size + 2]? = some o3 := by
  have h := heap_alloc_new ((w.alloc o1).alloc o2) o3
  simp only [World.size_alloc] at h; exact h
theorem heap_mid2 (w : World) (o1 o2 o3 o4 : Obj) : ((((w.alloc o1).alloc o2).alloc o3).alloc o4).heap[w.heap.size + 2]? = some o3 := (heap4 w o1 o2 o3 o4).2.2.2
theorem heap_new3 (w : World) (o1 o2 o3 o4 : Obj) : ((((w.alloc o1).alloc o2).alloc o3).alloc o4).heap[w.heap.size + 3]? = some o4 := (heap4 w o1 o2 o3 o4).2.1
theorem grown_refl (w : World) (row : Option Nat) : w.grownBy w row := ⟨rfl, rfl, rfl, Nat.le_refl _, fun _ _ _ => rfl⟩
/-- What is appended to a new empty row. -/
theorem step_append_e {P : Program} (w : World) {ops : Array Oper} {o : Oper} {a : Act} {K : Act → World → Prop} {Q : Exit → Act → World → Prop} {E : Prop} (hgd : o.guard = none) (s x : Operand) (t : TypeId)
    (ho : o.op = .call { callee := .builtin .append, args := #[s, x], argTypes := #[t, t] })
    (base : Nat) (e : TypeId) (i : TypeInfo) (z : Value) (size bytes : Nat) (ht : P.underlying t = some (.slice e)) (hi : P.info? e = some i) (hz : i.zero = some z)
    (hsize : i.size = size) (hby : i.bytes = bytes) (hzs : z.cells.size = size) (hsz : 0 < size)
    (b : Nat) (hs : a.eval s = .slice (some ⟨b, 0, none⟩) 0 0) (hown : w.ownsRow base e size (.slice (some ⟨b, 0, none⟩) 0 0) 0 [])
    (A : Option Addr) (m c : Nat) (news : List Value) (hx : a.eval x = .slice A m c) (hl : news.length = m * size)
    (hnews : 0 < m → ∃ ad, A = some ad ∧ ∀ j u, news[j]? = some u → w.cell? (ad.add j) = some u) (h1 : ∀ u ∈ news, u.oneCell' = true)
    (h63 : m ≤ maxLen) (hbytes : m * bytes ≤ 140737488355328) (hbase : base ≤ w.heap.size) (H : Nat) (hH : w.heap.size = H)
    (h : ∀ g cap w', w'.ownsRow base e size (.slice (some ⟨g, 0, none⟩) m cap) m news → w.grownBy w' (some b) → (g = b ∨ g = H) → g < w'.heap.size → K (a.put o.dst (.slice (some ⟨g, 0, none⟩) m cap)) w') :
    if Region.wanted o (yielded ops a.tmps) = true then Oper.wp P o a w K Q else E := by
  by_cases hm : 0 < m
  · obtain ⟨ad, hA, hn⟩ := hnews hm
    subst hA
    refine step_append_lies _ hgd s x t ho base e i z size bytes ht hi hz hsize hby hzs hsz _ 0 [] hs hown ad m c news hx hl hn h1 hm (by omega) (by rw [Nat.zero_add]; exact hbytes) hbase H hH ?_
    intro g cap w' ho' hg hat hlt
    rw [Nat.zero_add, List.nil_append] at ho'
    rw [Nat.zero_add]
    refine h g cap w' ho' hg ?_ hlt
    rcases hat with e | e
    · exact .inl (by simpa [Value.ownBlock] using e.symm)
    · exact .inr e
  · have hm0 : m = 0 := by omega
    subst hm0
    have hn0 : news = [] := List.eq_nil_of_length_eq_zero (by rw [hl, Nat.zero_mul])
    subst hn0
    exact step_append_same w hgd s x t ho base e i size ht hi hsize _ 0 [] hs hown A 0 c rfl hx (h b 0 w hown (grown_refl _ _) (.inl rfl) (own_lt (y := ⟨e, size, _, 0, []⟩) hown rfl))
theorem wpList_append_e {P : Program} (w : World) {ops : Array Oper} {rest : List Oper} {o : Oper} {a : Act} {Q : Exit → Act → World → Prop} (hgd : o.guard = none) (s x : Operand) (t : TypeId)
    (ho : o.op = .call { callee := .builtin .append, args := #[s, x], argTypes := #[t, t] })
    (base : Nat) (e : TypeId) (i : TypeInfo) (z : Value) (size bytes : Nat) (ht : P.underlying t = some (.slice e)) (hi : P.info? e = some i) (hz : i.zero = some z)
    (hsize : i.size = size) (hby : i.bytes = bytes) (hzs : z.cells.size = size) (hsz : 0 < size)
    (b : Nat) (hs : a.eval s = .slice (some ⟨b, 0, none⟩) 0 0) (hown : w.ownsRow base e size (.slice (some ⟨b, 0, none⟩) 0 0) 0 [])
    (A : Option Addr) (m c : Nat) (news : List Value) (hx : a.eval x = .slice A m c) (hl : news.length = m * size)
    (hnews : 0 < m → ∃ ad, A = some ad ∧ ∀ j u, news[j]? = some u → w.cell? (ad.add j) = some u) (h1 : ∀ u ∈ news, u.oneCell' = true)
    (h63 : m ≤ maxLen) (hbytes : m * bytes ≤ 140737488355328) (hbase : base ≤ w.heap.size) (H : Nat) (hH : w.heap.size = H)
    (h : ∀ g cap w', w'.ownsRow base e size (.slice (some ⟨g, 0, none⟩) m cap) m news → w.grownBy w' (some b) → (g = b ∨ g = H) → g < w'.heap.size → wpList P ops Q rest (a.put o.dst (.slice (some ⟨g, 0, none⟩) m cap)) w') :
    wpList P ops Q (o :: rest) a w :=
  wpList_plain hgd fun _ hK => by
    have hw : Region.wanted o (yielded ops a.tmps) = true := by simp [Region.wanted, hgd]
    have := step_append_e (P := P) (ops := ops) (K := fun a' w' => wpList P ops Q rest a' w') (Q := Q) (E := False) w hgd s x t ho base e i z size bytes ht hi hz hsize hby hzs hsz b hs hown A m c news hx hl hnews h1 h63 hbytes hbase H hH h
    rw [if_pos hw] at this
    exact Oper.wp_mono (fun a' w' h' => hK a' w' h') this
end Go.Proofs.YtekfhgldebhigaaDoor

namespace Go.Proofs.YtekfhgldebhigaaDoor
open Go.RowKit C
def codeRow (y : Fc × Value) : Rw := ⟨34, 5, y.2, y.1.code.length, (y.1.code.map inC).flatten⟩
def layRow (y : List Int × Value) : Rw := ⟨3, 1, y.2, y.1.length, y.1.map (Value.int .i64)⟩
def glRow (p : Pg) (v : Value) : Rw := ⟨45, 2, v, p.globals.length, (p.globals.map glC).flatten⟩
def nilF : Rw := ⟨37, 4, .slice none 0 0, 0, []⟩
def nilL : Rw := ⟨39, 1, .slice none 0 0, 0, []⟩
theorem cg_new {base g : Nat} {w4 : World} {y : Rw} {main : Value} (hb : y.v.ownBlock = some g) (h : y.own base w4) :
    Cg base w4.heap.size nilF [y] #[.slice none 0 0, y.v, .slice none 0 0, main] (w4.alloc (.cells #[.slice none 0 0, y.v, .slice none 0 0, main] 26)) := by
  refine ⟨heap_alloc_new _ _, World.ownsRow_nil _ _ _ _, by simp [nilF, Value.ownBlock], ?_, List.pairwise_singleton _ _⟩
  intro z hz
  obtain rfl : z = y := by simpa using hz
  refine ⟨World.ownsRow.alloc h _, fun b hb2 => ⟨?_, by simp [nilF, Value.ownBlock]⟩⟩
  have := own_lt h hb2
  omega
theorem cg_set {base g ob : Nat} {w4 : World} {y : Rw} {main z0 z1 z2 z3 : Value} (hb : y.v.ownBlock = some g) (hne : g ≠ ob) (hbx : w4.heap[ob]? = some (.cells #[z0, z1, z2, z3] 26 (0, 0))) (h : y.own base w4) :
    Cg base ob nilF [y] #[.slice none 0 0, y.v, .slice none 0 0, main] ((((w4.setCell ⟨ob, 0, none⟩ (.slice none 0 0)).setCell ⟨ob, 1, none⟩ y.v).setCell ⟨ob, 2, none⟩ (.slice none 0 0)).setCell ⟨ob, 3, none⟩ main) := by
  refine ⟨blk4 hbx, World.ownsRow_nil _ _ _ _, by simp [nilF, Value.ownBlock], ?_, List.pairwise_singleton _ _⟩
  intro z hz
  obtain rfl : z = y := by simpa using hz
  have hr : ∀ (V : World) (j : Nat) (v : Value), z.own base V → z.own base (V.setCell ⟨ob, j, none⟩ v) := fun V j v h => World.ownsRow.kept h (grown_set V ob j v) (.inr (by rw [hb]; intro e; exact hne (by simpa using e)))
  refine ⟨hr _ _ _ (hr _ _ _ (hr _ _ _ (hr _ _ _ h))), fun b hb2 => ⟨?_, by simp [nilF, Value.ownBlock]⟩⟩
  rw [hb] at hb2
  have : g = b := by simpa using hb2
  omega
/-- Behind the code of a function. -/
theorem after6 {base n g5 cap5 : Nat} {wr w5 W6 : World} {a0 a1 a2 a3 : Value} {news : List Value} {E : Obj}
    (ho : w5.ownsRow base 34 5 (.slice (some ⟨g5, 0, none⟩) n cap5) n news)
    (hg : ((wr.alloc (.cells #[a0, a1, a2, a3] 37)).alloc E).grownBy w5 (some (wr.heap.size + 1)))
    (hat : g5 = wr.heap.size + 1 ∨ g5 = wr.heap.size + 2) (hW : W6 = w5.setCell ⟨wr.heap.size, 3, none⟩ (.slice (some ⟨g5, 0, none⟩) n cap5)) :
    W6.heap[wr.heap.size]? = some (.cells #[a0, a1, a2, .slice (some ⟨g5, 0, none⟩) n cap5] 37) ∧ Below wr.heap.size wr W6 ∧ W6.ownsRow base 34 5 (.slice (some ⟨g5, 0, none⟩) n cap5) n news ∧ wr.heap.size + 2 ≤ W6.heap.size := by
  have hb5 : w5.heap[wr.heap.size]? = some (.cells #[a0, a1, a2, a3] 37) := (hg.block wr.heap.size (by simp; omega) (by simp)).trans (heap2a wr _ _)
  have hs5 := hg.size
  simp at hs5
  have hB5 : Below wr.heap.size wr w5 := (below2 wr _ _).grown hg (by simp; omega) (fun k hk => by cases hk; omega)
  subst hW
  refine ⟨?_, hB5.grown (grown_set _ _ _ _) (by omega) (fun k hk => by cases hk; omega), World.ownsRow.kept ho (grown_set _ _ _ _) (.inr ?_), by simp; omega⟩
  · simp [World.setCell, Array.getElem?_modify, hb5]
  · simp [Value.ownBlock]; omega
theorem bel_base {base : Nat} {w V5 V6 : World} {row : Option Nat} {ob j : Nat} {v : Value} (h : Below w.heap.size w V5) (hg : V5.grownBy V6 row) (hw : w.heap.size ≤ base) (hr : ∀ k, row = some k → base ≤ k) (hob : base ≤ ob) : Below w.heap.size w (V6.setCell ⟨ob, j, none⟩ v) :=
  ((h.grown hg h.size fun k hk => Nat.le_trans hw (hr k hk))).grown (grown_set _ _ _ _) (by have := h.size; have := hg.size; omega) (fun k hk => by cases hk; omega)
theorem own_ge {base : Nat} {V : World} {y : Rw} (h : y.own base V) {b : Nat} (hb : y.v.ownBlock = some b) : base ≤ b := (World.ownsRow.lt h b hb).1
/-- The functions that are copied. -/
structure J1 (p : Pg) (base ob : Nat) (gv : Value) (k : Nat) (ys : List (Fc × Value)) (Xa : Option Addr) (cx : Nat) (R : List Rw) (wr : World) : Prop where
  len : ys.map (·.1) = p.funcs.take k
  cg : Cg base ob ⟨37, 4, .slice Xa k cx, k, (ys.map fnC).flatten⟩ R #[.slice Xa k cx, gv, .slice none 0 0, .int .i64 p.main] wr
  cs : ∀ y ∈ ys, codeRow y ∈ R
  gl : glRow p gv ∈ R
  sl : ∀ y ∈ ys, ∃ g c, y.2 = .slice (some ⟨g, 0, none⟩) y.1.code.length c
  pw : ys.Pairwise fun a b => ∀ x, a.2.ownBlock = some x → b.2.ownBlock ≠ some x
theorem J1.next {p : Pg} {base ob : Nat} {gv : Value} {k : Nat} {ys : List (Fc × Value)} {Xa : Option Addr} {cx : Nat} {R : List Rw} {wr V5 V6 : World} {x : Fc} {g5 cap5 g2 cap2 : Nat} (h : J1 p base ob gv k ys Xa cx R wr) (hk : k < p.funcs.length) (hx : p.funcs[k] = x)
    (h5 : Below wr.heap.size wr V5) (ho : V5.ownsRow base 34 5 (.slice (some ⟨g5, 0, none⟩) x.code.length cap5) x.code.length ((x.code.map inC).flatten)) (hg5 : wr.heap.size ≤ g5)
    (hx6 : V6.ownsRow base 37 4 (.slice (some ⟨g2, 0, none⟩) (k + 1) cap2) (k + 1) ((ys.map fnC).flatten ++ fnC (x, .slice (some ⟨g5, 0, none⟩) x.code.length cap5)))
    (hg : V5.grownBy V6 (Value.slice Xa k cx).ownBlock) (hat : (Value.slice Xa k cx).ownBlock = some g2 ∨ g2 = V5.heap.size) :
    J1 p base ob gv (k + 1) (ys ++ [(x, .slice (some ⟨g5, 0, none⟩) x.code.length cap5)]) (some ⟨g2, 0, none⟩) cap2 (codeRow (x, .slice (some ⟨g5, 0, none⟩) x.code.length cap5) :: R) (V6.setCell ⟨ob, 0, none⟩ (.slice (some ⟨g2, 0, none⟩) (k + 1) cap2)) := by
  have hst := Cg.step (j := 0) (X' := ⟨37, 4, .slice (some ⟨g2, 0, none⟩) (k + 1) cap2, k + 1, (ys.map fnC).flatten ++ fnC (x, .slice (some ⟨g5, 0, none⟩) x.code.length cap5)⟩) (y := codeRow (x, .slice (some ⟨g5, 0, none⟩) x.code.length cap5)) (g := g2) h.cg h5 ho (by intro b hb; simp [codeRow, Value.ownBlock] at hb; omega) hx6 hg hat rfl
  refine ⟨by rw [List.map_append, h.len, List.take_succ_eq_append_getElem hk, hx]; rfl, ?_, ?_, List.mem_cons_of_mem _ h.gl, ?_, ?_⟩
  · simpa using hst
  · intro y hy
    rcases List.mem_append.1 hy with hy | hy
    · exact List.mem_cons_of_mem _ (h.cs y hy)
    · obtain rfl : y = _ := by simpa using hy
      exact List.mem_cons_self
  · intro y hy
    rcases List.mem_append.1 hy with hy | hy
    · exact h.sl y hy
    · obtain rfl : y = _ := by simpa using hy
      exact ⟨_, _, rfl⟩
  · refine List.pairwise_append.2 ⟨h.pw, List.pairwise_singleton _ _, fun a ha b hb x hx e => ?_⟩
    obtain rfl : b = _ := by simpa using hb
    have h1 := own_lt (h.cg.r _ (h.cs a ha)).1 hx
    have h2 : g5 = x := by simpa [Value.ownBlock] using e
    omega
theorem new_set (w5 : World) (b j : Nat) (v : Value) (o : Obj) : (((w5.setCell ⟨b, j, none⟩ v).alloc o).heap[w5.heap.size]? = some o) := by
  have h := heap_alloc_new (w5.setCell ⟨b, j, none⟩ v) o
  rwa [World.size_setCell] at h
theorem fn_one (x : Fc) (g c n : Nat) : ∀ u ∈ fnC (x, .slice (some ⟨g, 0, none⟩) n c), u.oneCell' = true := by intro u hu; simp at hu; rcases hu with rfl | rfl | rfl | rfl <;> rfl

theorem news_ints {W : World} {g o : Nat} {l : List Int} (h : ∀ i (hi : i < l.length), IntAt W l[i] g (o + i * 1)) : ∀ j u, (l.map (Value.int .i64))[j]? = some u → W.cell? ((⟨g, o, none⟩ : Addr).add j) = some u := by
  intro j u hu
  obtain ⟨hj, e⟩ := List.getElem?_eq_some_iff.1 hu
  rw [List.getElem_map] at e
  rw [List.length_map] at hj
  rw [addr_add, ← e]
  have := (h j hj).c0
  rwa [Nat.mul_one] at this
theorem cg_switch {base ob : Nat} {X : Rw} {R : List Rw} {cells : Array Value} {V : World} (h : Cg base ob X R cells V) : Cg base ob nilL (X :: R) cells V := by
  refine ⟨h.box, World.ownsRow_nil _ _ _ _, by simp [nilL, Value.ownBlock], ?_, List.pairwise_cons.2 ⟨fun r hr x hx e => (h.r r hr).2 x e |>.2 hx, h.pw⟩⟩
  intro y hy
  rcases List.mem_cons.1 hy with rfl | hy
  · exact ⟨h.x, fun b hb => ⟨fun e => h.xob (by rw [hb, e]), by simp [nilL, Value.ownBlock]⟩⟩
  · exact ⟨(h.r y hy).1, fun b hb => ⟨((h.r y hy).2 b hb).1, by simp [nilL, Value.ownBlock]⟩⟩
/-- The layouts that are copied. -/
structure J2 (p : Pg) (base ob : Nat) (gv : Value) (ys : List (Fc × Value)) (Xa : Option Addr) (cx : Nat) (k : Nat) (zs : List (List Int × Value)) (Ya : Option Addr) (cy : Nat) (R : List Rw) (wr : World) : Prop where
  len : zs.map (·.1) = p.layouts.take k
  cg : Cg base ob ⟨39, 1, .slice Ya k cy, k, (zs.map lyC).flatten⟩ R #[.slice Xa p.funcs.length cx, gv, .slice Ya k cy, .int .i64 p.main] wr
  ls : ∀ z ∈ zs, layRow z ∈ R
  sl : ∀ z ∈ zs, ∃ g c, z.2 = .slice (some ⟨g, 0, none⟩) z.1.length c
  fs : (⟨37, 4, .slice Xa p.funcs.length cx, p.funcs.length, (ys.map fnC).flatten⟩ : Rw) ∈ R
  cs : ∀ y ∈ ys, codeRow y ∈ R
  gl : glRow p gv ∈ R
  yl : ys.map (·.1) = p.funcs
  ysl : ∀ y ∈ ys, ∃ g c, y.2 = .slice (some ⟨g, 0, none⟩) y.1.code.length c
  pw : ys.Pairwise fun a b => ∀ x, a.2.ownBlock = some x → b.2.ownBlock ≠ some x
theorem J2.start {p : Pg} {base ob : Nat} {gv : Value} {ys : List (Fc × Value)} {Xa : Option Addr} {cx : Nat} {R : List Rw} {wr : World} (h : J1 p base ob gv p.funcs.length ys Xa cx R wr) :
    J2 p base ob gv ys Xa cx 0 [] none 0 (⟨37, 4, .slice Xa p.funcs.length cx, p.funcs.length, (ys.map fnC).flatten⟩ :: R) wr :=
  ⟨rfl, cg_switch h.cg, by simp, by simp, List.mem_cons_self, fun y hy => List.mem_cons_of_mem _ (h.cs y hy), List.mem_cons_of_mem _ h.gl, by rw [h.len, List.take_length], h.sl, h.pw⟩
theorem J2.next {p : Pg} {base ob : Nat} {gv : Value} {ys : List (Fc × Value)} {Xa : Option Addr} {cx : Nat} {k : Nat} {zs : List (List Int × Value)} {Ya : Option Addr} {cy : Nat} {R : List Rw} {wr V5 V6 : World} {x : List Int} {g5 cap5 g2 cap2 : Nat} (h : J2 p base ob gv ys Xa cx k zs Ya cy R wr) (hk : k < p.layouts.length) (hx : p.layouts[k] = x)
    (h5 : Below wr.heap.size wr V5) (ho : V5.ownsRow base 3 1 (.slice (some ⟨g5, 0, none⟩) x.length cap5) x.length (x.map (Value.int .i64))) (hg5 : wr.heap.size ≤ g5)
    (hx6 : V6.ownsRow base 39 1 (.slice (some ⟨g2, 0, none⟩) (k + 1) cap2) (k + 1) ((zs.map lyC).flatten ++ lyC (x, .slice (some ⟨g5, 0, none⟩) x.length cap5)))
    (hg : V5.grownBy V6 (Value.slice Ya k cy).ownBlock) (hat : (Value.slice Ya k cy).ownBlock = some g2 ∨ g2 = V5.heap.size) :
    J2 p base ob gv ys Xa cx (k + 1) (zs ++ [(x, .slice (some ⟨g5, 0, none⟩) x.length cap5)]) (some ⟨g2, 0, none⟩) cap2 (layRow (x, .slice (some ⟨g5, 0, none⟩) x.length cap5) :: R) (V6.setCell ⟨ob, 2, none⟩ (.slice (some ⟨g2, 0, none⟩) (k + 1) cap2)) := by
  have hst := Cg.step (j := 2) (X' := ⟨39, 1, .slice (some ⟨g2, 0, none⟩) (k + 1) cap2, k + 1, (zs.map lyC).flatten ++ lyC (x, .slice (some ⟨g5, 0, none⟩) x.length cap5)⟩) (y := layRow (x, .slice (some ⟨g5, 0, none⟩) x.length cap5)) (g := g2) h.cg h5 ho (by intro b hb; simp [layRow, Value.ownBlock] at hb; omega) hx6 hg hat rfl
  refine ⟨by rw [List.map_append, h.len, List.take_succ_eq_append_getElem hk, hx]; rfl, ?_, ?_, ?_, List.mem_cons_of_mem _ h.fs, fun y hy => List.mem_cons_of_mem _ (h.cs y hy), List.mem_cons_of_mem _ h.gl, h.yl, h.ysl, h.pw⟩
  · simpa using hst
  · intro y hy
    rcases List.mem_append.1 hy with hy | hy
    · exact List.mem_cons_of_mem _ (h.ls y hy)
    · obtain rfl : y = _ := by simpa using hy
      exact List.mem_cons_self
  · intro y hy
    rcases List.mem_append.1 hy with hy | hy
    · exact h.sl y hy
    · obtain rfl : y = _ := by simpa using hy
      exact ⟨_, _, rfl⟩
theorem ly_one (g c n : Nat) (x : List Int) : ∀ u ∈ lyC (x, .slice (some ⟨g, 0, none⟩) n c), u.oneCell' = true := by intro u hu; simp at hu; subst hu; rfl
theorem own_addr {V : World} {base n sz c : Nat} {t : TypeId} {A : Option Addr} {xs : List Value} (h : V.ownsRow base t sz (.slice A n c) n xs) (hn : 0 < n) : ∃ g, A = some ⟨g, 0, none⟩ ∧ n ≤ c ∧ g < V.heap.size := by
  rcases h.2 with ⟨_, e⟩ | ⟨g, cap, cur, e, _, hb, hc, _⟩
  · omega
  · cases e
    exact ⟨g, rfl, hc, (Array.getElem?_eq_some_iff.1 hb).1⟩
theorem own_cap {V : World} {base n sz c : Nat} {t : TypeId} {A : Option Addr} {xs : List Value} (h : V.ownsRow base t sz (.slice A n c) n xs) : n ≤ c := by
  rcases h.2 with ⟨_, e⟩ | ⟨g, cap, cur, e, _, hb, hc, _⟩
  · omega
  · cases e; exact hc
theorem at_of_map {α β : Type} {ys : List (α × β)} {l : List α} (h : ys.map (·.1) = l) : ys.length = l.length ∧ ∀ i (hi : i < l.length) (hj : i < ys.length), ys[i].1 = l[i] := by
  subst h
  exact ⟨by simp, fun i hi hj => by simp⟩
theorem copied_funcs {p : Pg} {base : Nat} {wr w : World} {A B D : Option Addr} {ca cb cd : Nat} {ys : List (Fc × Value)} {Xa : Option Addr} {cx : Nat} (hp : PgAt w p A B D ca cb cd)
    (hx : wr.ownsRow base 37 4 (.slice Xa p.funcs.length cx) p.funcs.length ((ys.map fnC).flatten)) (yl : ys.map (·.1) = p.funcs) (sl : ∀ y ∈ ys, ∃ g c, y.2 = .slice (some ⟨g, 0, none⟩) y.1.code.length c)
    (cs : ∀ y ∈ ys, (codeRow y).own base wr) : Row 4 (FnAt wr) Xa p.funcs := by
  by_cases h0 : 0 < p.funcs.length
  · obtain ⟨g, rfl, hcap, hlt⟩ := own_addr hx h0
    obtain ⟨gA, oA, _, hA⟩ := hp.fs.at h0
    obtain ⟨e1, e2⟩ := at_of_map yl
    refine .inr ⟨g, 0, rfl, fun i hi => ?_⟩
    have hj : i < ys.length := by omega
    have ey := e2 i hi hj
    have hc := own_cells (cl := fnC) (k := 4) (fun _ => rfl) (l := ys) (cap := cx) (by rw [e1]; exact hx) i hj
    have hold := hA i hi
    obtain ⟨g', c', e3⟩ := sl _ (List.getElem_mem hj)
    have hcr := cs _ (List.getElem_mem hj)
    rw [Nat.zero_add]
    rw [ey] at e3
    refine ⟨hlt, ?_, ?_, ?_, ?_, hold.s0, hold.b1, hold.b2⟩
    · have := hc 0 (by omega); simpa [ey] using this
    · have := hc 1 (by omega); simpa [ey] using this
    · have := hc 2 (by omega); simpa [ey] using this
    · unfold Rw.own codeRow at hcr
      simp only [ey, e3] at hcr
      obtain ⟨Ao, co, _, hco, hm, hr⟩ := hold.row
      refine ⟨_, _, by have := hc 3 (by omega); simpa [e3] using this, own_cap hcr, hm, .inr ⟨g', 0, rfl, fun r hr2 => ?_⟩⟩
      obtain ⟨gO, oO, _, hO⟩ := hr.at (by omega)
      have ho := hO r hr2
      have hc2 := own_cells (cl := inC) (k := 5) (fun _ => rfl) (l := p.funcs[i].code) hcr r hr2
      rw [Nat.zero_add]
      refine ⟨own_lt (y := ⟨_, _, _, _, _⟩) hcr rfl, ?_, ?_, ?_, ?_, ?_, ho.b0, ho.b1, ho.b2, ho.b3, ho.b4⟩
      · have := hc2 0 (by omega); simpa using this
      · have := hc2 1 (by omega); simpa using this
      · have := hc2 2 (by omega); simpa using this
      · have := hc2 3 (by omega); simpa using this
      · have := hc2 4 (by omega); simpa using this
  · exact .inl (List.eq_nil_of_length_eq_zero (by omega))
theorem copied_lays {p : Pg} {base : Nat} {wr w : World} {A B D : Option Addr} {ca cb cd : Nat} {zs : List (List Int × Value)} {Ya : Option Addr} {cy : Nat} (hp : PgAt w p A B D ca cb cd)
    (hx : wr.ownsRow base 39 1 (.slice Ya p.layouts.length cy) p.layouts.length ((zs.map lyC).flatten)) (yl : zs.map (·.1) = p.layouts) (sl : ∀ z ∈ zs, ∃ g c, z.2 = .slice (some ⟨g, 0, none⟩) z.1.length c)
    (cs : ∀ z ∈ zs, (layRow z).own base wr) : Row 1 (LyAt wr) Ya p.layouts := by
  by_cases h0 : 0 < p.layouts.length
  · obtain ⟨g, rfl, hcap, hlt⟩ := own_addr hx h0
    obtain ⟨gA, oA, _, hA⟩ := hp.ls.at h0
    obtain ⟨e1, e2⟩ := at_of_map yl
    refine .inr ⟨g, 0, rfl, fun i hi => ?_⟩
    have hj : i < zs.length := by omega
    have ey := e2 i hi hj
    have hc := own_cells (cl := lyC) (k := 1) (fun _ => rfl) (l := zs) (cap := cy) (by rw [e1]; exact hx) i hj
    have hold := hA i hi
    obtain ⟨g', c', e3⟩ := sl _ (List.getElem_mem hj)
    have hcr := cs _ (List.getElem_mem hj)
    rw [Nat.zero_add]
    rw [ey] at e3
    unfold Rw.own layRow at hcr
    simp only [ey, e3] at hcr
    obtain ⟨Ao, co, _, hco, hm, hr⟩ := hold.row
    refine ⟨hlt, _, _, by have := hc 0 (by omega); simpa [e3] using this, own_cap hcr, hm, .inr ⟨g', 0, rfl, fun r hr2 => ?_⟩⟩
    obtain ⟨gO, oO, _, hO⟩ := hr.at (by omega)
    have hc2 := hcr.cellAt r (by omega)
    rw [Nat.zero_add]
    refine ⟨own_lt (y := ⟨_, _, _, _, _⟩) hcr rfl, ?_, (hO r hr2).b0⟩
    simpa [hr2] using hc2
  · exact .inl (List.eq_nil_of_length_eq_zero (by omega))
theorem copied_globals {p : Pg} {base : Nat} {wr w : World} {A B D : Option Addr} {ca cb cd g1 cap1 : Nat} (hp : PgAt w p A B D ca cb cd)
    (hx : wr.ownsRow base 45 2 (.slice (some ⟨g1, 0, none⟩) p.globals.length cap1) p.globals.length ((p.globals.map glC).flatten)) : Row 2 (GlAt wr) (some ⟨g1, 0, none⟩) p.globals := by
  refine .inr ⟨g1, 0, rfl, fun i hi => ?_⟩
  obtain ⟨gA, oA, _, hA⟩ := hp.gs.at (by omega)
  have hold := hA i hi
  have hc := own_cells (cl := glC) (k := 2) (fun _ => rfl) (l := p.globals) hx i hi
  rw [Nat.zero_add]
  refine ⟨own_lt (y := ⟨_, _, _, _, _⟩) hx rfl, ?_, ?_, hold.s0, hold.b1⟩
  · have := hc 0 (by omega); simpa using this
  · have := hc 1 (by omega); simpa using this
theorem J2.pg {p : Pg} {base ob : Nat} {w : World} {A B D : Option Addr} {ca cb cd g1 cap1 : Nat} {ys : List (Fc × Value)} {Xa : Option Addr} {cx : Nat} {zs : List (List Int × Value)} {Ya : Option Addr} {cy : Nat} {R : List Rw} {wr : World} (hp : PgAt w p A B D ca cb cd)
    (h : J2 p base ob (.slice (some ⟨g1, 0, none⟩) p.globals.length cap1) ys Xa cx p.layouts.length zs Ya cy R wr) : PgAt wr p Xa (some ⟨g1, 0, none⟩) Ya cx cap1 cy := by
  have hf := (h.cg.r _ h.fs).1
  have hg := (h.cg.r _ h.gl).1
  exact ⟨copied_funcs hp hf h.yl h.ysl fun y hy => (h.cg.r _ (h.cs y hy)).1, copied_globals hp hg, copied_lays hp h.cg.x (by rw [h.len, List.take_length]) h.sl fun z hz => (h.cg.r _ (h.ls z hz)).1, hp.m, ⟨own_cap hf, hp.ka.2⟩, ⟨own_cap hg, hp.kb.2⟩, ⟨own_cap h.cg.x, hp.kd.2⟩⟩

theorem Cg.low {base ob b : Nat} {X : Rw} {R : List Rw} {cells : Array Value} {V V' : World} (h : Cg base ob X R cells V) (hg : V.grownBy V' (some b)) (hb : b < base) (hob : base ≤ ob) : Cg base ob X R cells V' := by
  have kp : ∀ y : Rw, y.own base V → y.own base V' := fun y hy => World.ownsRow.kept hy hg (by
    cases hv : y.v.ownBlock with
    | none => exact .inl rfl
    | some c => exact .inr (by intro e; have := own_ge hy hv; cases e; omega))
  exact ⟨(hg.block ob (Array.getElem?_eq_some_iff.1 h.box).1 (by intro e; cases e; omega)).trans h.box, kp _ h.x, h.xob, fun y hy => ⟨kp _ (h.r y hy).1, (h.r y hy).2⟩, h.pw⟩
theorem J2.low {p : Pg} {base ob b : Nat} {gv : Value} {ys : List (Fc × Value)} {Xa : Option Addr} {cx : Nat} {k : Nat} {zs : List (List Int × Value)} {Ya : Option Addr} {cy : Nat} {R : List Rw} {V V' : World} (h : J2 p base ob gv ys Xa cx k zs Ya cy R V) (hg : V.grownBy V' (some b)) (hb : b < base) (hob : base ≤ ob) : J2 p base ob gv ys Xa cx k zs Ya cy R V' :=
  ⟨h.len, h.cg.low hg hb hob, h.ls, h.sl, h.fs, h.cs, h.gl, h.yl, h.ysl, h.pw⟩
theorem J2.low4 {p : Pg} {base ob b : Nat} {gv : Value} {ys : List (Fc × Value)} {Xa : Option Addr} {cx : Nat} {k : Nat} {zs : List (List Int × Value)} {Ya : Option Addr} {cy : Nat} {R : List Rw} {V : World} {v0 v1 v2 v3 : Value} (h : J2 p base ob gv ys Xa cx k zs Ya cy R V) (hb : b < base) (hob : base ≤ ob) :
    J2 p base ob gv ys Xa cx k zs Ya cy R ((((V.setCell ⟨b, 0, none⟩ v0).setCell ⟨b, 1, none⟩ v1).setCell ⟨b, 2, none⟩ v2).setCell ⟨b, 3, none⟩ v3) :=
  (((h.low (grown_set _ _ _ _) hb hob).low (grown_set _ _ _ _) hb hob).low (grown_set _ _ _ _) hb hob).low (grown_set _ _ _ _) hb hob
theorem bel_set4 {n b : Nat} {w V : World} {v0 v1 v2 v3 : Value} (h : Below n w V) (hn : n ≤ V.heap.size) (hb : n ≤ b) : Below n w ((((V.setCell ⟨b, 0, none⟩ v0).setCell ⟨b, 1, none⟩ v1).setCell ⟨b, 2, none⟩ v2).setCell ⟨b, 3, none⟩ v3) := by
  have st : ∀ (V : World) (j : Nat) (v : Value), Below n w V → n ≤ V.heap.size → Below n w (V.setCell ⟨b, j, none⟩ v) := fun V j v h hn => h.grown (grown_set _ _ _ _) hn (fun k hk => by cases hk; omega)
  exact st _ _ _ (st _ _ _ (st _ _ _ (st _ _ _ h hn) (by simpa using hn)) (by simpa using hn)) (by simpa using hn)
theorem rb_A {w4 : World} {n : Nat} {o o' : Obj} (h : w4.heap[n]? = some o) : (w4.alloc o').heap[n]? = some o :=
  ((Below.refl _ w4).alloc (Nat.le_refl _) o' |>.block n (Array.getElem?_eq_some_iff.1 h).1).trans h
theorem rb_S {w4 : World} {n ob : Nat} {o : Obj} {a b c d : Value} (h : w4.heap[n]? = some o) (hne : n ≠ ob) : ((((w4.setCell ⟨ob, 0, none⟩ a).setCell ⟨ob, 1, none⟩ b).setCell ⟨ob, 2, none⟩ c).setCell ⟨ob, 3, none⟩ d).heap[n]? = some o := by
  rw [heap_setCell_other _ _ _ _ (by simpa using hne), heap_setCell_other _ _ _ _ (by simpa using hne), heap_setCell_other _ _ _ _ (by simpa using hne), heap_setCell_other _ _ _ _ (by simpa using hne)]
  exact h
theorem infoPg : (Tryd.prog.info? 26).map (·.size) = some 4 := by kernel_rfl
end Go.Proofs.YtekfhgldebhigaaDoor

namespace Go.Proofs.YtekfhgldebhigaaDoor
open Go.RowKit C
theorem pair_of {α : Type} {r : α → α → Prop} (hs : ∀ a b, r a b → r b a) : ∀ {R : List α}, R.Pairwise r → ∀ {a b : α}, a ∈ R → b ∈ R → a ≠ b → r a b
  | [], _, _, _, ha, _, _ => by cases ha
  | c :: R, h, a, b, ha, hb, hne => by
    rw [List.pairwise_cons] at h
    rcases List.mem_cons.1 ha with e | ha
    · rcases List.mem_cons.1 hb with e2 | hb
      · exact absurd (e.trans e2.symm) hne
      · rw [e]; exact h.1 _ hb
    · rcases List.mem_cons.1 hb with e2 | hb
      · rw [e2]; exact hs _ _ (h.1 _ ha)
      · exact pair_of hs h.2 ha hb hne
theorem own_set {base : Nat} {V : World} {y : Rw} (h : y.own base V) {g j : Nat} {v : Value} (hne : y.v.ownBlock ≠ some g) : y.own base (V.setCell ⟨g, j, none⟩ v) :=
  World.ownsRow.kept h (grown_set V g j v) (.inr hne)
/-- One function of the copy. -/
theorem copied_fn {base g : Nat} {w V : World} {p : Pg} {A B D : Option Addr} {ca cb cd cx : Nat} {ys : List (Fc × Value)} (hp : PgAt w p A B D ca cb cd)
    (hx : V.ownsRow base 37 4 (.slice (some ⟨g, 0, none⟩) p.funcs.length cx) p.funcs.length ((ys.map fnC).flatten)) (yl : ys.map (·.1) = p.funcs)
    {i : Nat} (hi : i < p.funcs.length) (hj : i < ys.length) (sl : ∃ g c, ys[i].2 = .slice (some ⟨g, 0, none⟩) p.funcs[i].code.length c) (cs : (codeRow ys[i]).own base V) : FnAt V p.funcs[i] g (i * 4) := by
  obtain ⟨gA, oA, _, hA⟩ := hp.fs.at (by omega)
  obtain ⟨e1, e2⟩ := at_of_map yl
  have ey := e2 i hi hj
  have hc := own_cells (cl := fnC) (k := 4) (fun _ => rfl) (l := ys) (cap := cx) (by rw [e1]; exact hx) i hj
  have hold := hA i hi
  obtain ⟨g', c', e3⟩ := sl
  refine ⟨own_lt (y := ⟨_, _, _, _, _⟩) hx rfl, ?_, ?_, ?_, ?_, hold.s0, hold.b1, hold.b2⟩
  · have := hc 0 (by omega); simpa [ey] using this
  · have := hc 1 (by omega); simpa [ey] using this
  · have := hc 2 (by omega); simpa [ey] using this
  · unfold Rw.own codeRow at cs
    simp only [ey, e3] at cs
    obtain ⟨Ao, co, _, hco, hm, hr⟩ := hold.row
    refine ⟨_, _, by have := hc 3 (by omega); simpa [e3] using this, own_cap cs, hm, .inr ⟨g', 0, rfl, fun r hr2 => ?_⟩⟩
    obtain ⟨gO, oO, _, hO⟩ := hr.at (by omega)
    have ho := hO r hr2
    have hc2 := own_cells (cl := inC) (k := 5) (fun _ => rfl) (l := p.funcs[i].code) cs r hr2
    rw [Nat.zero_add]
    refine ⟨own_lt (y := ⟨_, _, _, _, _⟩) cs rfl, ?_, ?_, ?_, ?_, ?_, ho.b0, ho.b1, ho.b2, ho.b3, ho.b4⟩
    · have := hc2 0 (by omega); simpa using this
    · have := hc2 1 (by omega); simpa using this
    · have := hc2 2 (by omega); simpa using this
    · have := hc2 3 (by omega); simpa using this
    · have := hc2 4 (by omega); simpa using this
theorem set_cell {V : World} {g j m : Nat} {v u : Value} (h : V.cell? ⟨g, m, none⟩ = some u) : (V.setCell ⟨g, j, none⟩ v).cell? ⟨g, m, none⟩ = some (if m = j then v else u) := by
  by_cases e : m = j
  · subst e
    rw [if_pos rfl]
    exact World.cell?_setCell_same _ _ _ h
  · rw [if_neg e, ← h]
    exact World.cell?_setCell_other _ _ _ _ (by intro e2; apply e; cases e2; rfl)
/-- The function whose operand is set. -/
theorem set_fn {base g g5 c5 k : Nat} {w V : World} {p : Pg} {A B D : Option Addr} {ca cb cd cx : Nat} {ys : List (Fc × Value)} {v : Int} (hp : PgAt w p A B D ca cb cd)
    (hx : V.ownsRow base 37 4 (.slice (some ⟨g, 0, none⟩) p.funcs.length cx) p.funcs.length ((ys.map fnC).flatten)) (yl : ys.map (·.1) = p.funcs)
    {i : Nat} (hi : i < p.funcs.length) (hj : i < ys.length) (sl : ys[i].2 = .slice (some ⟨g5, 0, none⟩) p.funcs[i].code.length c5) (cs : (codeRow ys[i]).own base V) (hne : g ≠ g5) (hk : k < p.funcs[i].code.length) (hv : i64 v) :
    FnAt (V.setCell ⟨g5, k * 5 + 1, none⟩ (.int .i64 v)) { p.funcs[i] with code := p.funcs[i].code.modify k fun x => { x with a := v } } g (i * 4) := by
  have h0 := copied_fn hp hx yl hi hj ⟨_, _, sl⟩ cs
  obtain ⟨e1, e2⟩ := at_of_map yl
  have ey := e2 i hi hj
  have hc := own_cells (cl := fnC) (k := 4) (fun _ => rfl) (l := ys) (cap := cx) (by rw [e1]; exact hx) i hj
  have keep : ∀ o u, V.cell? ⟨g, o, none⟩ = some u → (V.setCell ⟨g5, k * 5 + 1, none⟩ (.int .i64 v)).cell? ⟨g, o, none⟩ = some u := fun o u h => by
    rw [← h]; exact World.cell?_setCell_other _ _ _ _ (by intro e; cases e; exact hne rfl)
  unfold Rw.own codeRow at cs
  simp only [ey, sl] at cs
  obtain ⟨gA, oA, _, hA⟩ := hp.fs.at (by omega)
  obtain ⟨Ao, co, _, hco, hm, hr⟩ := (hA i hi).row
  refine ⟨by simpa using h0.lt, keep _ _ h0.c0, keep _ _ h0.c1, keep _ _ h0.c2, ⟨some ⟨g5, 0, none⟩, c5, keep _ _ (by have := hc 3 (by omega); simpa [sl] using this), ?_, ?_, .inr ⟨g5, 0, rfl, fun r hr2 => ?_⟩⟩, h0.s0, h0.b1, h0.b2⟩
  · simpa using own_cap cs
  · simpa using hm
  · have hr3 : r < p.funcs[i].code.length := by simpa using hr2
    obtain ⟨gO, oO, _, hO⟩ := hr.at (by omega)
    have ho := hO r hr3
    have hc2 := own_cells (cl := inC) (k := 5) (fun _ => rfl) (l := p.funcs[i].code) cs r hr3
    have c0 : _ = some _ := set_cell (m := r * 5) (j := k * 5 + 1) (v := .int .i64 v) (hc2 0 (by omega))
    have c1 := set_cell (j := k * 5 + 1) (v := .int .i64 v) (hc2 1 (by omega))
    have c2 := set_cell (j := k * 5 + 1) (v := .int .i64 v) (hc2 2 (by omega))
    have c3 := set_cell (j := k * 5 + 1) (v := .int .i64 v) (hc2 3 (by omega))
    have c4 := set_cell (j := k * 5 + 1) (v := .int .i64 v) (hc2 4 (by omega))
    have hlt : g5 < (V.setCell ⟨g5, k * 5 + 1, none⟩ (.int .i64 v)).heap.size := by have := own_lt (y := ⟨_, _, _, _, _⟩) cs rfl; simpa using this
    rw [if_neg (by omega)] at c0 c2 c3 c4
    rw [Nat.zero_add]
    by_cases e : r = k
    · subst e
      rw [if_pos rfl] at c1
      simp only [List.getElem_modify, if_pos]
      exact ⟨hlt, c0, c1, c2, c3, c4, ho.b0, hv, ho.b2, ho.b3, ho.b4⟩
    · rw [if_neg (by omega)] at c1
      simp only [List.getElem_modify, if_neg (fun h : k = r => e h.symm)]
      exact ⟨hlt, c0, c1, c2, c3, c4, ho.b0, ho.b1, ho.b2, ho.b3, ho.b4⟩
/-- The program whose operand is set. -/
theorem set_pg {base g1 cap1 g5 c5 k : Nat} {w V : World} {p : Pg} {A B D : Option Addr} {ca cb cd cx cy : Nat} {Xa Ya : Option Addr} {ys : List (Fc × Value)} {zs : List (List Int × Value)} {v : Int} (hp : PgAt w p A B D ca cb cd)
    (hf : V.ownsRow base 37 4 (.slice Xa p.funcs.length cx) p.funcs.length ((ys.map fnC).flatten)) (yl : ys.map (·.1) = p.funcs)
    (sl : ∀ y ∈ ys, ∃ g c, y.2 = .slice (some ⟨g, 0, none⟩) y.1.code.length c) (cs : ∀ y ∈ ys, (codeRow y).own base V)
    (hg : V.ownsRow base 45 2 (.slice (some ⟨g1, 0, none⟩) p.globals.length cap1) p.globals.length ((p.globals.map glC).flatten))
    (hl : V.ownsRow base 39 1 (.slice Ya p.layouts.length cy) p.layouts.length ((zs.map lyC).flatten)) (zl : zs.map (·.1) = p.layouts)
    (zsl : ∀ z ∈ zs, ∃ g c, z.2 = .slice (some ⟨g, 0, none⟩) z.1.length c) (ls : ∀ z ∈ zs, (layRow z).own base V)
    {i : Nat} (hi : i < p.funcs.length) (hj : i < ys.length) (esl : ys[i].2 = .slice (some ⟨g5, 0, none⟩) p.funcs[i].code.length c5) (hk : k < p.funcs[i].code.length) (hv : i64 v)
    (d1 : (Value.slice Xa p.funcs.length cx).ownBlock ≠ some g5) (d2 : g1 ≠ g5) (d3 : (Value.slice Ya p.layouts.length cy).ownBlock ≠ some g5) (d4 : ∀ z ∈ zs, z.2.ownBlock ≠ some g5) (d5 : ∀ j (hj : j < ys.length), j ≠ i → ys[j].2.ownBlock ≠ some g5) :
    PgAt (V.setCell ⟨g5, k * 5 + 1, none⟩ (.int .i64 v)) (setA p i k v) Xa (some ⟨g1, 0, none⟩) Ya cx cap1 cy := by
  obtain ⟨e1, e2⟩ := at_of_map yl
  have hfc := own_cap hf
  obtain ⟨g, rfl, hcap, hlt⟩ := own_addr hf (by omega)
  have hne : g ≠ g5 := by intro e; apply d1; rw [e]; rfl
  have hF : (setA p i k v).funcs.length = p.funcs.length := by simp [setA]
  have hf' := own_set (y := ⟨_, _, _, _, _⟩) (j := k * 5 + 1) (v := .int .i64 v) hf d1
  refine ⟨.inr ⟨g, 0, rfl, fun j hj2 => ?_⟩, copied_globals (p := p) hp (own_set (y := ⟨_, _, _, _, _⟩) hg (by intro e; exact d2 (by simpa [Value.ownBlock] using e))), copied_lays (p := p) hp (own_set (y := ⟨_, _, _, _, _⟩) hl d3) zl zsl fun z hz => own_set (ls z hz) (d4 z hz), hp.m, ⟨by rw [hF]; exact hfc, by rw [hF]; exact hp.ka.2⟩, ⟨own_cap hg, hp.kb.2⟩, ⟨own_cap hl, hp.kd.2⟩⟩
  rw [hF] at hj2
  have hjy : j < ys.length := by omega
  rw [Nat.zero_add]
  have eF : (setA p i k v).funcs[j]'(by rw [hF]; exact hj2) = if i = j then { p.funcs[j] with code := p.funcs[j].code.modify k fun x => { x with a := v } } else p.funcs[j] := by
    simp [setA, List.getElem_modify]
  rw [eF]
  by_cases e : i = j
  · subst e
    rw [if_pos rfl]
    exact set_fn hp hf yl hi hj esl (cs _ (List.getElem_mem hj)) hne hk hv
  · rw [if_neg e]
    obtain ⟨g', c', e3⟩ := sl _ (List.getElem_mem hjy)
    refine copied_fn hp hf' yl hj2 hjy ⟨g', c', by rw [e3, e2 j hj2 hjy]⟩ (own_set (cs _ (List.getElem_mem hjy)) (d5 j hjy fun h => e h.symm))
theorem codeRow_far {R : List Rw} {y : Fc × Value} {r : Rw} {x : Nat} (hp : R.Pairwise fun a b => ∀ x, a.v.ownBlock = some x → b.v.ownBlock ≠ some x) (hy : codeRow y ∈ R) (hr : r ∈ R) (ht : r.t ≠ 34) (hx : y.2.ownBlock = some x) : r.v.ownBlock ≠ some x :=
  pair_of (r := fun a b => ∀ x, a.v.ownBlock = some x → b.v.ownBlock ≠ some x) (fun a b h x hb ha => h x ha hb) hp hy hr (fun e => ht (by rw [← e]; rfl)) x hx
/-- In a copied program, an operand may be set. -/
theorem J2.mut {p : Pg} {base ob g1 cap1 : Nat} {w : World} {A B D : Option Addr} {ca cb cd : Nat} {ys : List (Fc × Value)} {Xa : Option Addr} {cx : Nat} {zs : List (List Int × Value)} {Ya : Option Addr} {cy : Nat} {R : List Rw} {wr : World} (hp : PgAt w p A B D ca cb cd)
    (h : J2 p base ob (.slice (some ⟨g1, 0, none⟩) p.globals.length cap1) ys Xa cx p.layouts.length zs Ya cy R wr) {i k : Nat} (hi : i < p.funcs.length) (hk : k < p.funcs[i].code.length) :
    ∃ g g5 c5, Xa = some ⟨g, 0, none⟩ ∧ wr.cell? ⟨g, i * 4 + 3, none⟩ = some (.slice (some ⟨g5, 0, none⟩) p.funcs[i].code.length c5) ∧ base ≤ g5 ∧ g5 < wr.heap.size ∧
      ∀ V, Below wr.heap.size wr V → V.cell? ⟨g5, k * 5 + 1, none⟩ = some (.int .i64 p.funcs[i].code[k].a) ∧ V.frozen? ⟨g5, k * 5 + 1, none⟩ = false ∧
        ∀ v, i64 v → PgAt (V.setCell ⟨g5, k * 5 + 1, none⟩ (.int .i64 v)) (setA p i k v) Xa (some ⟨g1, 0, none⟩) Ya cx cap1 cy := by
  obtain ⟨e1, e2⟩ := at_of_map h.yl
  have hj : i < ys.length := by omega
  have hf := (h.cg.r _ h.fs).1
  have hg := (h.cg.r _ h.gl).1
  obtain ⟨g, hXa, _, _⟩ := own_addr hf (by omega)
  obtain ⟨g5, c5, esl⟩ := h.ysl _ (List.getElem_mem hj)
  have ey := e2 i hi hj
  rw [ey] at esl
  have hcy := h.cs _ (List.getElem_mem hj)
  have hcr := (h.cg.r _ hcy).1
  have hb : ys[i].2.ownBlock = some g5 := by rw [esl]; rfl
  have hc3 := own_cells (cl := fnC) (k := 4) (fun _ => rfl) (l := ys) (cap := cx) (g := g) (by rw [e1, ← hXa]; exact hf) i hj 3 (by omega)
  refine ⟨g, g5, c5, hXa, by simpa [esl] using hc3, own_ge hcr hb, own_lt hcr hb, fun V hV => ?_⟩
  have hcV : V.ownsRow base 34 5 (.slice (some ⟨g5, 0, none⟩) p.funcs[i].code.length c5) p.funcs[i].code.length ((p.funcs[i].code.map inC).flatten) := by
    have := own_keepN hcr hV
    unfold codeRow at this
    simpa only [ey, esl] using this
  have hc1 := own_cells (cl := inC) (k := 5) (fun _ => rfl) (l := p.funcs[i].code) hcV k hk 1 (by omega)
  refine ⟨by simpa using hc1, ?_, fun v hv => ?_⟩
  · rcases hcV.2 with ⟨e, _⟩ | ⟨gq, cap, cur, e, _, hh, _⟩
    · cases e
    · cases e
      simp [World.frozen?, hh]
  · refine set_pg hp (own_keepN hf hV) h.yl h.ysl (fun y hy => own_keepN (h.cg.r _ (h.cs y hy)).1 hV) (own_keepN hg hV) (own_keepN h.cg.x hV) (by rw [h.len, List.take_length]) h.sl (fun z hz => own_keepN (h.cg.r _ (h.ls z hz)).1 hV) hi hj esl hk hv ?_ ?_ ?_ ?_ ?_
    · exact codeRow_far h.cg.pw hcy h.fs (by show (37 : Nat) ≠ 34; decide) hb
    · have := codeRow_far h.cg.pw hcy h.gl (by show (45 : Nat) ≠ 34; decide) hb
      intro e; apply this; rw [← e]; rfl
    · exact ((h.cg.r _ hcy).2 g5 hb).2
    · intro z hz
      exact codeRow_far h.cg.pw hcy (h.ls z hz) (by show (3 : Nat) ≠ 34; decide) hb
    · intro j hj2 hne e
      rcases Nat.lt_or_gt_of_ne hne with hlt | hlt
      · exact (List.pairwise_iff_getElem.1 h.pw) j i hj2 hj hlt g5 e hb
      · exact (List.pairwise_iff_getElem.1 h.pw) i j hj hj2 hlt g5 hb e
end Go.Proofs.YtekfhgldebhigaaDoor

namespace Go.Proofs.YtekfhgldebhigaaDoor
open Go.RowKit C
def stripAt (p : Pg) (i k : Nat) : Pg := { p with funcs := p.funcs.modify i fun f => { f with code := f.code.modify k stripI } }
/-- A copied program. -/
structure MuD (p : Pg) (base : Nat) (A B D : Option Addr) (ca cb cd : Nat) (ys : List (Fc × Value)) (zs : List (List Int × Value)) (V : World) : Prop where
  pg : PgAt V p A B D ca cb cd
  fs : V.ownsRow base 37 4 (.slice A p.funcs.length ca) p.funcs.length ((ys.map fnC).flatten)
  yl : ys.map (·.1) = p.funcs
  sl : ∀ y ∈ ys, ∃ g c, y.2 = .slice (some ⟨g, 0, none⟩) y.1.code.length c
  cs : ∀ y ∈ ys, (codeRow y).own base V
  gl : V.ownsRow base 45 2 (.slice B p.globals.length cb) p.globals.length ((p.globals.map glC).flatten)
  ls : V.ownsRow base 39 1 (.slice D p.layouts.length cd) p.layouts.length ((zs.map lyC).flatten)
  zl : zs.map (·.1) = p.layouts
  zsl : ∀ z ∈ zs, ∃ g c, z.2 = .slice (some ⟨g, 0, none⟩) z.1.length c
  lr : ∀ z ∈ zs, (layRow z).own base V
  d : ∀ y ∈ ys, ∀ x, y.2.ownBlock = some x → (Value.slice A p.funcs.length ca).ownBlock ≠ some x ∧ (Value.slice B p.globals.length cb).ownBlock ≠ some x ∧ (Value.slice D p.layouts.length cd).ownBlock ≠ some x ∧ ∀ z ∈ zs, z.2.ownBlock ≠ some x
  pw : ys.Pairwise fun a b => ∀ x, a.2.ownBlock = some x → b.2.ownBlock ≠ some x
  bs : ∃ g1, B = some ⟨g1, 0, none⟩
theorem MuD.keep {p : Pg} {base : Nat} {A B D : Option Addr} {ca cb cd : Nat} {ys : List (Fc × Value)} {zs : List (List Int × Value)} {V V' : World} (h : MuD p base A B D ca cb cd ys zs V) (hb : Below V.heap.size V V') : MuD p base A B D ca cb cd ys zs V' :=
  ⟨h.pg.below hb, own_keepN h.fs hb, h.yl, h.sl, fun y hy => own_keepN (h.cs y hy) hb, own_keepN h.gl hb, own_keepN h.ls hb, h.zl, h.zsl, fun z hz => own_keepN (h.lr z hz) hb, h.d, h.pw, h.bs⟩
theorem J2.mu {p : Pg} {base ob g1 cap1 : Nat} {w : World} {A B D : Option Addr} {ca cb cd : Nat} {ys : List (Fc × Value)} {Xa : Option Addr} {cx : Nat} {zs : List (List Int × Value)} {Ya : Option Addr} {cy : Nat} {R : List Rw} {wr : World} (hp : PgAt w p A B D ca cb cd)
    (h : J2 p base ob (.slice (some ⟨g1, 0, none⟩) p.globals.length cap1) ys Xa cx p.layouts.length zs Ya cy R wr) : MuD p base Xa (some ⟨g1, 0, none⟩) Ya cx cap1 cy ys zs wr := by
  refine ⟨h.pg hp, (h.cg.r _ h.fs).1, h.yl, h.ysl, fun y hy => (h.cg.r _ (h.cs y hy)).1, (h.cg.r _ h.gl).1, h.cg.x, by rw [h.len, List.take_length], h.sl, fun z hz => (h.cg.r _ (h.ls z hz)).1, fun y hy x hx => ?_, h.pw, _, rfl⟩
  have hcy := h.cs y hy
  exact ⟨codeRow_far h.cg.pw hcy h.fs (by show (37 : Nat) ≠ 34; decide) hx, codeRow_far h.cg.pw hcy h.gl (by show (45 : Nat) ≠ 34; decide) hx, ((h.cg.r _ hcy).2 x hx).2, fun z hz => codeRow_far h.cg.pw hcy (h.ls z hz) (by show (3 : Nat) ≠ 34; decide) hx⟩
/-- The other functions stand. -/
theorem fnAt_far {V : World} {f : Fc} {g o g5 j : Nat} {v : Value} (h : FnAt V f g o) (hne : g ≠ g5) (hc : ∀ A c, V.cell? ⟨g, o + 3, none⟩ = some (.slice A f.code.length c) → ∀ x o', A = some ⟨x, o', none⟩ → x ≠ g5) : FnAt (V.setCell ⟨g5, j, none⟩ v) f g o := by
  have keep : ∀ b o u, b ≠ g5 → V.cell? ⟨b, o, none⟩ = some u → (V.setCell ⟨g5, j, none⟩ v).cell? ⟨b, o, none⟩ = some u := fun b o u hn h => by
    rw [← h]; exact World.cell?_setCell_other _ _ _ _ (by intro e; cases e; exact hn rfl)
  obtain ⟨A, c, h3, hc1, hm, hr⟩ := h.row
  refine ⟨by simpa using h.lt, keep _ _ _ hne h.c0, keep _ _ _ hne h.c1, keep _ _ _ hne h.c2, ⟨A, c, keep _ _ _ hne h3, hc1, hm, ?_⟩, h.s0, h.b1, h.b2⟩
  rcases hr with e | ⟨x, o', e, hr⟩
  · exact .inl e
  · have hx := hc A c h3 x o' e
    refine .inr ⟨x, o', e, fun i hi => ?_⟩
    have hi2 := hr i hi
    exact ⟨by simpa using hi2.lt, keep _ _ _ hx hi2.c0, keep _ _ _ hx hi2.c1, keep _ _ _ hx hi2.c2, keep _ _ _ hx hi2.c3, keep _ _ _ hx hi2.c4, hi2.b0, hi2.b1, hi2.b2, hi2.b3, hi2.b4⟩
theorem flat_set {l : List In} {k : Nat} (hk : k < l.length) : (((l.modify k stripI).map inC).flatten) = (l.map inC).flatten.set (k * 5 + 4) (.int .i64 0) := by
  apply List.ext_getElem?
  intro n
  have hl1 : (((l.modify k stripI).map inC).flatten).length = l.length * 5 := by rw [flat_len (cl := inC) (k := 5) (fun _ => rfl)]; simp
  have hl2 : ((l.map inC).flatten).length = l.length * 5 := flat_len (cl := inC) (k := 5) (fun _ => rfl) l
  by_cases hn : n < l.length * 5
  · have e : n = n / 5 * 5 + n % 5 := by omega
    have hi : n / 5 < l.length := by omega
    have hr : n % 5 < 5 := by omega
    have h1 := flat_at (cl := inC) (k := 5) (fun _ => rfl) (l.modify k stripI) (n / 5) (n % 5) (by simpa using hi) hr
    have h2 := flat_at (cl := inC) (k := 5) (fun _ => rfl) l (n / 5) (n % 5) hi hr
    rw [← e] at h1 h2
    rw [h1]
    by_cases hs : n = k * 5 + 4
    · have hk5 : n / 5 = k := by omega
      have hm5 : n % 5 = 4 := by omega
      rw [← hs, List.getElem?_set_self (by omega)]
      simp only [List.getElem_modify, hk5, if_pos, hm5]
      rfl
    · rw [List.getElem?_set_ne (by omega), h2]
      by_cases hk5 : k = n / 5
      · have hm5 : n % 5 ≠ 4 := by omega
        simp only [List.getElem_modify, if_pos hk5]
        generalize l[n / 5] = x at *
        have : n % 5 = 0 ∨ n % 5 = 1 ∨ n % 5 = 2 ∨ n % 5 = 3 := by omega
        rcases this with h | h | h | h <;> rw [h] <;> rfl
      · simp only [List.getElem_modify, if_neg hk5]
  · rw [List.getElem?_eq_none (by omega), List.getElem?_eq_none (by rw [List.length_set]; omega)]
theorem pair_modify {ys : List (Fc × Value)} {i : Nat} {f : Fc × Value → Fc × Value} (hf : ∀ y, (f y).2 = y.2) (h : ys.Pairwise fun a b => ∀ x, a.2.ownBlock = some x → b.2.ownBlock ≠ some x) : (ys.modify i f).Pairwise fun a b => ∀ x, a.2.ownBlock = some x → b.2.ownBlock ≠ some x := by
  rw [List.pairwise_iff_getElem] at h ⊢
  intro a b ha hb hab
  have e : ∀ c (hc : c < (ys.modify i f).length), (ys.modify i f)[c].2 = (ys[c]'(by simpa using hc)).2 := fun c hc => by
    rw [List.getElem_modify]; split
    · exact hf _
    · rfl
  rw [e a ha, e b hb]
  exact h a b (by simpa using ha) (by simpa using hb) hab
theorem strip_fn {V V' : World} {base g o g' o' x c k : Nat} {f : Fc} (hold : FnAt V f g o) (hlt : g' < V'.heap.size) (c0 : V'.cell? ⟨g', o', none⟩ = some (.string f.name)) (c1 : V'.cell? ⟨g', o' + 1, none⟩ = some (.int .i64 f.params)) (c2 : V'.cell? ⟨g', o' + 2, none⟩ = some (.int .i64 f.regs))
    (c3 : V'.cell? ⟨g', o' + 3, none⟩ = some (.slice (some ⟨x, 0, none⟩) f.code.length c)) (hrow : V'.ownsRow base 34 5 (.slice (some ⟨x, 0, none⟩) f.code.length c) f.code.length (((f.code.modify k stripI).map inC).flatten)) :
    FnAt V' { f with code := f.code.modify k stripI } g' o' := by
  obtain ⟨Ao, co, _, hco, hm, hr⟩ := hold.row
  have hL : (f.code.modify k stripI).length = f.code.length := by simp
  refine ⟨hlt, c0, c1, c2, ⟨some ⟨x, 0, none⟩, c, by rw [hL]; exact c3, by rw [hL]; exact own_cap hrow, by rw [hL]; exact hm, .inr ⟨x, 0, rfl, fun r hr2 => ?_⟩⟩, hold.s0, hold.b1, hold.b2⟩
  have hr3 : r < f.code.length := by simpa using hr2
  obtain ⟨gO, oO, _, hO⟩ := hr.at (by omega)
  have ho := hO r hr3
  have hc2 := own_cells (cl := inC) (k := 5) (fun _ => rfl) (l := f.code.modify k stripI) (cap := c) (g := x) (by rw [hL]; exact hrow) r hr2
  have hx : x < V'.heap.size := own_lt (y := ⟨_, _, _, _, _⟩) hrow rfl
  have q0 := hc2 0 (by omega)
  have q1 := hc2 1 (by omega)
  have q2 := hc2 2 (by omega)
  have q3 := hc2 3 (by omega)
  have q4 := hc2 4 (by omega)
  simp only [List.getElem_modify] at q0 q1 q2 q3 q4 ⊢
  rw [Nat.zero_add]
  by_cases e : k = r
  · simp only [if_pos e] at q0 q1 q2 q3 q4 ⊢
    exact ⟨hx, q0, q1, q2, q3, q4, ho.b0, ho.b1, ho.b2, ho.b3, by unfold stripI i64; simp⟩
  · simp only [if_neg e] at q0 q1 q2 q3 q4 ⊢
    exact ⟨hx, q0, q1, q2, q3, q4, ho.b0, ho.b1, ho.b2, ho.b3, ho.b4⟩
/-- An offset is set. -/
theorem MuD.set {p : Pg} {base : Nat} {A B D : Option Addr} {ca cb cd : Nat} {ys : List (Fc × Value)} {zs : List (List Int × Value)} {V : World} (h : MuD p base A B D ca cb cd ys zs V) {i k : Nat} (hi : i < p.funcs.length) (hk : k < p.funcs[i].code.length) :
    ∃ g g5 c5, A = some ⟨g, 0, none⟩ ∧ V.cell? ⟨g, i * 4 + 3, none⟩ = some (.slice (some ⟨g5, 0, none⟩) p.funcs[i].code.length c5) ∧ base ≤ g5 ∧ g5 < V.heap.size ∧ g < V.heap.size ∧
      V.cell? ⟨g5, k * 5 + 4, none⟩ = some (.int .i64 p.funcs[i].code[k].at') ∧ V.frozen? ⟨g5, k * 5 + 4, none⟩ = false ∧ p.funcs[i].code.length ≤ c5 ∧
      ∃ ys', MuD (stripAt p i k) base A B D ca cb cd ys' zs (V.setCell ⟨g5, k * 5 + 4, none⟩ (.int .i64 0)) := by
  obtain ⟨e1, e2⟩ := at_of_map h.yl
  have hj : i < ys.length := by omega
  have ey := e2 i hi hj
  obtain ⟨g, rfl, hcap, hlt⟩ := own_addr h.fs (by omega)
  have hmem := List.getElem_mem hj
  obtain ⟨g5, c5, esl⟩ := h.sl _ hmem
  rw [ey] at esl
  have hcr := h.cs _ hmem
  have hb : ys[i].2.ownBlock = some g5 := by rw [esl]; rfl
  obtain ⟨d1, d2, d3, d4⟩ := h.d _ hmem g5 hb
  have hne : g ≠ g5 := by intro e; apply d1; rw [e]; rfl
  have hc3 := own_cells (cl := fnC) (k := 4) (fun _ => rfl) (l := ys) (cap := ca) (g := g) (by rw [e1]; exact h.fs) i hj 3 (by omega)
  have hcV : V.ownsRow base 34 5 (.slice (some ⟨g5, 0, none⟩) p.funcs[i].code.length c5) p.funcs[i].code.length ((p.funcs[i].code.map inC).flatten) := by
    have := hcr
    unfold codeRow Rw.own at this
    simpa only [ey, esl] using this
  have hc4 := own_cells (cl := inC) (k := 5) (fun _ => rfl) (l := p.funcs[i].code) hcV k hk 4 (by omega)
  have hst := hcV.stored (k * 5 + 4) (.int .i64 0)
  have hd5 : ∀ j (hj : j < ys.length), j ≠ i → ys[j].2.ownBlock ≠ some g5 := by
    intro j hj2 hne2 e
    rcases Nat.lt_or_gt_of_ne hne2 with hlt | hlt
    · exact (List.pairwise_iff_getElem.1 h.pw) j i hj2 hj hlt g5 e hb
    · exact (List.pairwise_iff_getElem.1 h.pw) i j hj hj2 hlt g5 hb e
  refine ⟨g, g5, c5, rfl, by simpa [esl] using hc3, own_ge hcr hb, own_lt hcr hb, hlt, by simpa using hc4, hcV.frozenAt _, own_cap hcV, ys.modify i (fun y => ({ y.1 with code := y.1.code.modify k stripI }, y.2)), ?_⟩
  have hset : ∀ {y : Rw}, y.own base V → y.v.ownBlock ≠ some g5 → y.own base (V.setCell ⟨g5, k * 5 + 4, none⟩ (.int .i64 0)) := fun hy hn => own_set hy hn
  have hF : (stripAt p i k).funcs.length = p.funcs.length := by simp [stripAt]
  have hyl : (ys.modify i (fun y => ({ y.1 with code := y.1.code.modify k stripI }, y.2))).map (·.1) = (stripAt p i k).funcs := by
    unfold stripAt
    simp only
    rw [← h.yl]
    apply List.ext_getElem?
    intro n
    simp only [List.getElem?_map, List.getElem?_modify]
    by_cases hn : i = n
    · subst hn; simp; cases ys[i]? <;> rfl
    · simp [hn]
  have hfl : ((ys.modify i (fun y => ({ y.1 with code := y.1.code.modify k stripI }, y.2))).map fnC) = ys.map fnC := by
    apply List.ext_getElem?
    intro n
    simp only [List.getElem?_map, List.getElem?_modify]
    by_cases hn : i = n
    · subst hn; simp; cases ys[i]? <;> rfl
    · simp [hn]
  have hsl : ∀ y ∈ ys.modify i (fun y => ({ y.1 with code := y.1.code.modify k stripI }, y.2)), ∃ g c, y.2 = .slice (some ⟨g, 0, none⟩) y.1.code.length c := by
    intro y hy
    obtain ⟨j, hj2, rfl⟩ := List.getElem_of_mem hy
    rw [List.getElem_modify]
    have hj3 : j < ys.length := by simpa using hj2
    obtain ⟨g', c', e⟩ := h.sl _ (List.getElem_mem hj3)
    split
    · exact ⟨g', c', by simpa using e⟩
    · exact ⟨g', c', e⟩
  have hcs : ∀ y ∈ ys.modify i (fun y => ({ y.1 with code := y.1.code.modify k stripI }, y.2)), (codeRow y).own base (V.setCell ⟨g5, k * 5 + 4, none⟩ (.int .i64 0)) := by
    intro y hy
    obtain ⟨j, hj2, rfl⟩ := List.getElem_of_mem hy
    have hj3 : j < ys.length := by simpa using hj2
    rw [List.getElem_modify]
    by_cases hn : i = j
    · subst hn
      rw [if_pos rfl]
      unfold codeRow Rw.own
      simp only [ey, esl, List.length_modify]
      rw [flat_set hk]
      exact hst.1
    · rw [if_neg hn]
      exact hset (h.cs _ (List.getElem_mem hj3)) (hd5 j hj3 fun e => hn e.symm)
  have hfs := hset (y := ⟨_, _, _, _, _⟩) h.fs d1
  have hgl := hset (y := ⟨_, _, _, _, _⟩) h.gl d2
  have hls := hset (y := ⟨_, _, _, _, _⟩) h.ls d3
  have hlr : ∀ z ∈ zs, (layRow z).own base (V.setCell ⟨g5, k * 5 + 4, none⟩ (.int .i64 0)) := fun z hz => hset (h.lr z hz) (d4 z hz)
  obtain ⟨g1, hB⟩ := h.bs
  have hpf : Row 4 (FnAt (V.setCell ⟨g5, k * 5 + 4, none⟩ (.int .i64 0))) (some ⟨g, 0, none⟩) (stripAt p i k).funcs := by
    refine .inr ⟨g, 0, rfl, fun j hj2 => ?_⟩
    rw [hF] at hj2
    have hjy : j < ys.length := by omega
    rw [Nat.zero_add]
    have hold : FnAt V p.funcs[j] g (j * 4) := by
      obtain ⟨gq, oq, eq, hq⟩ := h.pg.fs.at (by omega)
      have eq2 := Option.some.inj eq
      have eq3 : g = gq ∧ 0 = oq := by injection eq2 with a b c; exact ⟨a, b⟩
      obtain ⟨rfl, rfl⟩ := eq3
      have := hq j hj2
      rwa [Nat.zero_add] at this
    have eF : (stripAt p i k).funcs[j]'(by rw [hF]; exact hj2) = if i = j then { p.funcs[j] with code := p.funcs[j].code.modify k stripI } else p.funcs[j] := by
      simp [stripAt, List.getElem_modify]
    rw [eF]
    have hc := own_cells (cl := fnC) (k := 4) (fun _ => rfl) (l := ys) (cap := ca) (g := g) (by rw [e1]; exact h.fs) j hjy
    by_cases e : i = j
    · subst e
      rw [if_pos rfl]
      have hmm : ∀ o u, V.cell? ⟨g, o, none⟩ = some u → (V.setCell ⟨g5, k * 5 + 4, none⟩ (.int .i64 0)).cell? ⟨g, o, none⟩ = some u := fun o u h => by
        rw [← h]; exact World.cell?_setCell_other _ _ _ _ (by intro e; cases e; exact hne rfl)
      have hown := hst.1
      rw [← flat_set hk] at hown
      exact strip_fn hold (by simpa using hlt) (hmm _ _ hold.c0) (hmm _ _ hold.c1) (hmm _ _ hold.c2) (hmm _ _ (by simpa [esl] using hc3)) hown
    · rw [if_neg e]
      refine fnAt_far hold hne fun A c hA x o' hx => ?_
      obtain ⟨g', c', e3⟩ := h.sl _ (List.getElem_mem hjy)
      have e4 := hc 3 (by omega)
      rw [hA] at e4
      have e5 : Value.slice A p.funcs[j].code.length c = ys[j].2 := Option.some.inj e4
      intro hxg
      apply hd5 j hjy (fun h => e h.symm)
      rw [← e5, hx, hxg]
      rfl
  refine ⟨⟨hpf, by subst hB; exact copied_globals (p := p) h.pg hgl, copied_lays (p := p) h.pg hls h.zl h.zsl hlr, h.pg.m, by rw [hF]; exact h.pg.ka, h.pg.kb, h.pg.kd⟩, by rw [hF, hfl]; exact hfs, hyl, hsl, hcs, hgl, hls, h.zl, h.zsl, hlr, ?_, pair_modify (fun _ => rfl) h.pw, h.bs⟩
  rw [hF]
  intro y hy x hx
  obtain ⟨j, hj2, rfl⟩ := List.getElem_of_mem hy
  have hj3 : j < ys.length := by simpa using hj2
  refine h.d _ (List.getElem_mem hj3) x ?_
  rw [List.getElem_modify] at hx
  split at hx
  · exact hx
  · exact hx
end Go.Proofs.YtekfhgldebhigaaDoor
