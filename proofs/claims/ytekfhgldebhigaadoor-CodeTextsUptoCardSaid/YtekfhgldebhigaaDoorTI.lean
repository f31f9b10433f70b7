/-
  The law CodeText.
-/
import Derived.Test.YtekfhgldebhigaaDoorTH
import Derived.Test.YtekfhgldebhigaaDoorRI
import Derived.Test.YtekfhgldebhigaaDoorEH
set_option linter.all false
namespace Go.Proofs.YtekfhgldebhigaaDoor
open Go.RowKit C
set_option maxRecDepth 100000
/-- What came in is small. -/
structure Bk (p : Pg) : Prop where
  tot : (p.funcs.map fun f => f.name.size + f.code.length + 1).sum + (p.globals.map fun g => g.name.size + 1).sum + (p.layouts.map (·.length)).sum ≤ 1048576
  lay : p.layouts.length ≤ 1048576
theorem sum_le_sum {α : Type} {f g : α → Nat} {c : Nat} {l : List α} (h : ∀ x ∈ l, f x ≤ c * g x) : (l.map f).sum ≤ c * (l.map g).sum := by
  induction l with
  | nil => simp
  | cons a l ih =>
    have h1 := h a List.mem_cons_self
    have h2 := ih fun x hx => h x (List.mem_cons_of_mem _ hx)
    simp only [List.map_cons, List.sum_cons, Nat.mul_add]
    omega
theorem sum_lin {l : List (List Int)} : (l.map fun x => 22 * x.length + 7).sum = 22 * (l.map (·.length)).sum + 7 * l.length := by
  induction l with
  | nil => rfl
  | cons a l ih => simp only [List.map_cons, List.sum_cons, List.length_cons, ih]; omega
theorem Bk.z {p : Pg} (h : Bk p) : Bz p := by
  obtain ⟨h1, h2⟩ := h
  refine ⟨?_, ?_, ?_⟩
  · have := sum_le_sum (f := fun g : Gl => g.name.size + 30) (g := fun g : Gl => g.name.size + 1) (c := 30) (l := p.globals) (fun x _ => by omega)
    omega
  · rw [sum_lin]; omega
  · have := sum_le_sum (f := fun f : Fc => f.name.size + 50 + 100 * f.code.length) (g := fun f : Fc => f.name.size + f.code.length + 1) (c := 100) (l := p.funcs) (fun x _ => by omega)
    omega
theorem Bk.code {p : Pg} (h : Bk p) : ∀ f ∈ p.funcs, f.code.length ≤ 1100000 := fun f hf => by
  have := in_sum (f := fun f : Fc => f.name.size + f.code.length + 1) hf
  have := h.tot
  omega
theorem Bk.ly {p : Pg} (h : Bk p) : ∀ l ∈ p.layouts, l.length ≤ 1100000 := fun l hl => by
  have := in_sum (f := fun l : List Int => l.length) hl
  have := h.tot
  omega
theorem valid_ops {p : Pg} (hv : validB p = true) : ∀ f ∈ p.funcs, ∀ x ∈ f.code, 1 ≤ x.op ∧ x.op ≤ 52 := fun f hf x hx => by
  obtain ⟨i, hi, rfl⟩ := List.getElem_of_mem hx
  exact op_range (seq_at p f f.code 0 (valid_fn hv hf).seq i hi).1
structure Cl (p : Pg) (A B D : Option Addr) (ca cb cd : Nat) (w V : World) : Prop where
  b : B1 p A B D ca cb cd w V
  t : Tb V
theorem Cl.keep {p : Pg} {A B D : Option Addr} {ca cb cd : Nat} {w V V' : World} (h : Cl p A B D ca cb cd w V) (hb : Below V.heap.size V V') : Cl p A B D ca cb cd w V' := ⟨h.b.keep hb, h.t.step hb⟩
set_option maxHeartbeats 4000000 in
theorem law_CodeText (p : Pg) (A B D : Option Addr) (ca cb cd : Nat) (w : World) (hp : PgAt w p A B D ca cb cd) (hk : Bk p) (hT : Tb w) : Calls Tryd.prog 3 #[pv p A B D ca cb cd] w fun e w' => e = .returned (.bool true) ∧ Below w.heap.size w w' := by
  have HN : Hid (Cl p A B D ca cb cd w _) := Lib.hid ⟨B1.new p A B D ca cb cd w, hT.step (below1 w _)⟩
  have HR : Hid (∀ V, Below w.heap.size w V → Calls Tryd.prog 6 #[pv p A B D ca cb cd] V fun e w' => e = .returned (.bool (validB p)) ∧ Below V.heap.size V w') := Lib.hid fun V hV => rvalid_any p A B D ca cb cd V (hp.below hV)
  have HW : Hid (∀ V, Calls Tryd.prog 5 #[] V fun e w' => e = .returned (.bool true) ∧ Below V.heap.size V w') := Lib.hid awake_any
  cases hb : validB p with
  | false =>
    simp only [hb] at HR
    clear hb hp hk hT
    go_enter Tryd.func3, Tryd.ntmps3
    go_wp2_with fail
    refine wp_region_class (Cl p A B D ca cb cd w) (by kernel_rfl) (by kernel_rfl) (HN.out.keep (Below.drew (Below.refl _ _))) ?_
    go_big_quiet_want
    refine quiet_intro (.bool true) (fun V hV => ?_) ?_
    · have hVB := Lib.hid hV
      go_simp
      refine (HW.out _).mono ?_
      rintro e V' ⟨rfl, hbb⟩
      exact ⟨rfl, hVB.out.keep hbb⟩
    try simp only [Act.put, List.setIfInBounds_toArray, List.set_cons_zero, List.set_cons_succ]
    go_big_quiet_on
    go_big_quiet_want
    go_big_quiet_op
    go_big_quiet_on
    go_big_quiet_want
    refine quiet_intro (pv p A B D ca cb cd) (fun V hV => ?_) ?_
    · obtain ⟨⟨y00, y01, y02, y03, yb⟩, _⟩ := hV
      go_simp
    try simp only [Act.put, List.setIfInBounds_toArray, List.set_cons_zero, List.set_cons_succ]
    go_big_quiet_on
    go_big_quiet_want
    refine quiet_intro (.bool false) (fun V hV => ?_) ?_
    · have hVB := Lib.hid hV
      go_simp
      refine (HR.out _ hVB.out.b.bel).mono ?_
      rintro e V' ⟨rfl, hbb⟩
      exact ⟨rfl, hVB.out.keep hbb⟩
    try simp only [Act.put, List.setIfInBounds_toArray, List.set_cons_zero, List.set_cons_succ]
    go_big_quiet_on
    go_big_quiet_want
    refine quiet_intro (.bool true) (fun V hV => ?_) ?_
    · obtain ⟨⟨y00, y01, y02, y03, yb⟩, _⟩ := hV
      go_simp
    try simp only [Act.put, List.setIfInBounds_toArray, List.set_cons_zero, List.set_cons_succ]
    go_big_quiet_on
    go_big_quiet_want
    go_big_quiet_op
    go_big_quiet_on
    go_big_quiet_skip
    go_big_quiet_skip
    go_big_quiet_skip
    go_big_quiet_skip
    go_big_quiet_skip
    go_big_quiet_want
    refine quiet_intro (.bool true) (fun V hV => ?_) ?_
    · obtain ⟨⟨y00, y01, y02, y03, yb⟩, _⟩ := hV
      go_simp
    try simp only [Act.put, List.setIfInBounds_toArray, List.set_cons_zero, List.set_cons_succ]
    go_big_quiet_on
    go_big_quiet_want
    refine quiet_intro (.bool true) (fun V hV => ?_) ?_
    · obtain ⟨⟨y00, y01, y02, y03, yb⟩, _⟩ := hV
      go_simp
    try simp only [Act.put, List.setIfInBounds_toArray, List.set_cons_zero, List.set_cons_succ]
    go_big_quiet_on
    go_big_quiet_want
    go_big_quiet_op
    go_big_quiet_on
    refine wpQuiet_nil ?_
    intro W hW
    have hb := hW.b.bel
    clear hW
    go_wp2
    go_ret
    exact ⟨rfl, hb⟩
  | true =>
    simp only [hb] at HR
    obtain ⟨T, hTT⟩ : ∃ T, txt (textT p) = T := ⟨_, rfl⟩
    have HC : Hid (∀ V, Below w.heap.size w V → Tb V → Calls Tryd.prog 7 #[pv p A B D ca cb cd] V fun e w' => e = .returned (.string T) ∧ Below V.heap.size V w') := Lib.hid fun V hV hTV => by have := ctext_any p A B D ca cb cd V (hp.below hV) hk.z (valid_ops hb) hk.code hk.ly hTV; rw [hTT] at this; exact this
    have HT : Hid (∀ V, Below w.heap.size w V → Calls Tryd.prog 8 #[pv p A B D ca cb cd] V fun e w' => e = .returned (.string T) ∧ Below V.heap.size V w') := Lib.hid fun V hV => by have := rtext_any p A B D ca cb cd V (hp.below hV) hk.z (valid_ops hb) hk.code hk.ly; rw [hTT] at this; exact this
    clear hb hp hk hT hTT
    go_enter Tryd.func3, Tryd.ntmps3
    go_wp2_with fail
    refine wp_region_class (Cl p A B D ca cb cd w) (by kernel_rfl) (by kernel_rfl) (HN.out.keep (Below.drew (Below.refl _ _))) ?_
    go_big_quiet_want
    refine quiet_intro (.bool true) (fun V hV => ?_) ?_
    · have hVB := Lib.hid hV
      go_simp
      refine (HW.out _).mono ?_
      rintro e V' ⟨rfl, hbb⟩
      exact ⟨rfl, hVB.out.keep hbb⟩
    try simp only [Act.put, List.setIfInBounds_toArray, List.set_cons_zero, List.set_cons_succ]
    go_big_quiet_on
    go_big_quiet_want
    go_big_quiet_op
    go_big_quiet_on
    go_big_quiet_want
    refine quiet_intro (pv p A B D ca cb cd) (fun V hV => ?_) ?_
    · obtain ⟨⟨y00, y01, y02, y03, yb⟩, _⟩ := hV
      go_simp
    try simp only [Act.put, List.setIfInBounds_toArray, List.set_cons_zero, List.set_cons_succ]
    go_big_quiet_on
    go_big_quiet_want
    refine quiet_intro (.bool true) (fun V hV => ?_) ?_
    · have hVB := Lib.hid hV
      go_simp
      refine (HR.out _ hVB.out.b.bel).mono ?_
      rintro e V' ⟨rfl, hbb⟩
      exact ⟨rfl, hVB.out.keep hbb⟩
    try simp only [Act.put, List.setIfInBounds_toArray, List.set_cons_zero, List.set_cons_succ]
    go_big_quiet_on
    go_big_quiet_want
    refine quiet_intro (.bool false) (fun V hV => ?_) ?_
    · obtain ⟨⟨y00, y01, y02, y03, yb⟩, _⟩ := hV
      go_simp
    try simp only [Act.put, List.setIfInBounds_toArray, List.set_cons_zero, List.set_cons_succ]
    go_big_quiet_on
    go_big_quiet_want
    go_big_quiet_op
    go_big_quiet_on
    go_big_quiet_want
    refine quiet_intro (pv p A B D ca cb cd) (fun V hV => ?_) ?_
    · obtain ⟨⟨y00, y01, y02, y03, yb⟩, _⟩ := hV
      go_simp
    try simp only [Act.put, List.setIfInBounds_toArray, List.set_cons_zero, List.set_cons_succ]
    go_big_quiet_on
    go_big_quiet_want
    refine quiet_intro (.string T) (fun V hV => ?_) ?_
    · have hVB := Lib.hid hV
      go_simp
      refine (HC.out _ hVB.out.b.bel hVB.out.t).mono ?_
      rintro e V' ⟨rfl, hbb⟩
      exact ⟨rfl, hVB.out.keep hbb⟩
    try simp only [Act.put, List.setIfInBounds_toArray, List.set_cons_zero, List.set_cons_succ]
    go_big_quiet_on
    go_big_quiet_want
    refine quiet_intro (pv p A B D ca cb cd) (fun V hV => ?_) ?_
    · obtain ⟨⟨y00, y01, y02, y03, yb⟩, _⟩ := hV
      go_simp
    try simp only [Act.put, List.setIfInBounds_toArray, List.set_cons_zero, List.set_cons_succ]
    go_big_quiet_on
    go_big_quiet_want
    refine quiet_intro (.string T) (fun V hV => ?_) ?_
    · have hVB := Lib.hid hV
      go_simp
      refine (HT.out _ hVB.out.b.bel).mono ?_
      rintro e V' ⟨rfl, hbb⟩
      exact ⟨rfl, hVB.out.keep hbb⟩
    try simp only [Act.put, List.setIfInBounds_toArray, List.set_cons_zero, List.set_cons_succ]
    go_big_quiet_on
    go_big_quiet_want
    refine quiet_intro (.bool true) (fun V hV => ?_) ?_
    · obtain ⟨⟨y00, y01, y02, y03, yb⟩, _⟩ := hV
      go_simp
    try simp only [Act.put, List.setIfInBounds_toArray, List.set_cons_zero, List.set_cons_succ]
    go_big_quiet_on
    go_big_quiet_want
    refine quiet_intro (.bool true) (fun V hV => ?_) ?_
    · obtain ⟨⟨y00, y01, y02, y03, yb⟩, _⟩ := hV
      go_simp
    try simp only [Act.put, List.setIfInBounds_toArray, List.set_cons_zero, List.set_cons_succ]
    go_big_quiet_on
    go_big_quiet_want
    refine quiet_intro (.bool true) (fun V hV => ?_) ?_
    · obtain ⟨⟨y00, y01, y02, y03, yb⟩, _⟩ := hV
      go_simp
    try simp only [Act.put, List.setIfInBounds_toArray, List.set_cons_zero, List.set_cons_succ]
    go_big_quiet_on
    go_big_quiet_want
    go_big_quiet_op
    go_big_quiet_on
    refine wpQuiet_nil ?_
    intro W hW
    have hb := hW.b.bel
    clear hW
    go_wp2
    go_ret
    exact ⟨rfl, hb⟩
end Go.Proofs.YtekfhgldebhigaaDoor
