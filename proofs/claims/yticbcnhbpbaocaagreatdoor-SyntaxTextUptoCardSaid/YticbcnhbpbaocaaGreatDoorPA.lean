/-
  The walks of the sets of nodes: isDeclaration, isType, isExpression, isStatement, isCommunication, lastKind.
  The places of children: what a function value stands for; the walks of the two closures, of the predicate that EqualFunc is handed.
  The walk of slices.Repeat at one place.
  The walks of oneOf, optional, repeat, of EqualFunc at nodes and places.
  The walk of places.
-/
import Derived.Test.YticbcnhbpbaocaaGreatDoorCA
import Derived.Test.YticbcnhbpbaocaaGreatDoorTA
import Derived.Test.YticbcnhbpbaocaaGreatDoorShelf
import Derived.Laws.EntriesVeiled
import Derived.Laws.CopyOwn
import Derived.Laws.MakeOwn
import Derived.Deep.RegionLaw
import Derived.Deep.DeepCutAuto
import Derived.IntWalk

set_option linter.all false
namespace Go.Proofs.YticbcnhbpbaocaaGreatDoor
open Go.RowKit T T.Fo

/-- The last child's first cell. -/
theorem last_cell {S : Nat → Prop} {w : World} : ∀ (F : Fo) (g o : Nat), LiesF S w F g o → F ≠ .nil → w.cell? ⟨g, o + (F.len - 1) * 9, none⟩ = some (.int .i64 (lastK F)) ∧ S g := by
  intro F
  induction F with
  | nil => intro g o _ h; exact absurd rfl h
  | cons h k r _ ihr =>
    rintro g o ⟨A, cap, hS, hc, h9, hk, hr⟩ _
    cases r with
    | nil => exact ⟨by simpa [Fo.len, lastK] using h9.c0, hS⟩
    | cons h' k' r' =>
      have := ihr g (o + 9) hr (by intro e; cases e)
      simp only [Fo.len, lastK, Nat.add_sub_cancel] at this ⊢
      rw [show o + (r'.len + 1) * 9 = o + 9 + r'.len * 9 by omega]
      exact this
theorem typeK_of {k : Int} {v : Bool} (h : v = true ↔ (k = 7 ∨ k = 8)) : v = typeK k := by
  unfold typeK
  rw [Bool.eq_iff_iff, h]; simp

set_option maxRecDepth 100000 in
theorem isType_any (h : Hd) (A : Option Addr) (n cap : Nat) (w : World) : Calls Tryz.prog 84 #[nv h A n cap] w fun e w' => e = .returned (.bool (typeK h.kind)) ∧ Below w.heap.size w w' := by
  go_enter Tryz.func84, Tryz.ntmps84
  go_wp2
  all_goals go_ret
  all_goals exact ⟨ret_bool (typeK_of (by simp_all)), (Below.refl _ _).alloc (Nat.le_refl _) _⟩
set_option maxRecDepth 100000 in
set_option maxHeartbeats 2000000 in
theorem isExpr_any (h : Hd) (A : Option Addr) (n cap : Nat) (w : World) : Calls Tryz.prog 86 #[nv h A n cap] w fun e w' => e = .returned (.bool (exprK h.kind)) ∧ Below w.heap.size w w' := by
  go_enter Tryz.func86, Tryz.ntmps86
  go_wp2
  all_goals go_ret
  all_goals exact ⟨ret_bool (by unfold exprK; simp_all), (Below.refl _ _).alloc (Nat.le_refl _) _⟩
set_option maxRecDepth 100000 in
set_option maxHeartbeats 2000000 in
theorem isStmt_any (h : Hd) (A : Option Addr) (n cap : Nat) (w : World) : Calls Tryz.prog 87 #[nv h A n cap] w fun e w' => e = .returned (.bool (stmtK h.kind)) ∧ Below w.heap.size w w' := by
  go_enter Tryz.func87, Tryz.ntmps87
  go_wp2
  all_goals go_ret
  all_goals exact ⟨ret_bool (by unfold stmtK; simp_all), (Below.refl _ _).alloc (Nat.le_refl _) _⟩
set_option maxRecDepth 100000 in
theorem lastKind_any (h : Hd) (F : Fo) (A : Option Addr) (cap : Nat) (w : World) (hk : Kids (Lt w.heap.size) w A F) (hm : F.len ≤ 1048576) : Calls Tryz.prog 111 #[nv h A F.len cap] w fun e w' => e = .returned (.int .i64 (lastK F)) ∧ Below w.heap.size w w' := by
  rcases hk with rfl | ⟨g, o, rfl, hl⟩
  · go_enter Tryz.func111, Tryz.ntmps111
    go_wp2
    go_ret
    exact ⟨rfl, (Below.refl _ _).alloc (Nat.le_refl _) _⟩
  · by_cases hn : F = .nil
    · subst hn
      go_enter Tryz.func111, Tryz.ntmps111
      go_wp2
      go_ret
      exact ⟨rfl, (Below.refl _ _).alloc (Nat.le_refl _) _⟩
    · obtain ⟨hc, hg⟩ := last_cell F g o hl hn
      obtain ⟨m, hmm⟩ : ∃ m, F.len = m + 1 := ⟨F.len - 1, by
        have : F.len ≠ 0 := fun e => hn (Fo.len_zero e)
        omega⟩
      rw [hmm] at hc hm ⊢
      rw [Nat.add_sub_cancel] at hc
      have hg' : g < w.heap.size := hg
      have e0 : ((m + 1 : Nat) : Int) = (m : Int) + 1 := by omega
      have HF := Lib.hid hn
      clear hl hn hmm hg
      go_enter Tryz.func111, Tryz.ntmps111
      go_wp2
      go_ret
      exact ⟨rfl, (Below.refl _ _).alloc (Nat.le_refl _) _⟩
theorem al_new1 (w : World) (v : Value) (t : TypeId) : (w.alloc (.cells #[v] t)).cell? ⟨w.heap.size, 0, none⟩ = some v := by
  have h2 : ∀ W : World, W.heap[w.heap.size]? = some (.cells #[v] t) → W.cell? ⟨w.heap.size, 0, none⟩ = some v := fun W h => by simp [World.cell?, h]
  exact h2 _ (heap_alloc_new w _)
theorem kids_al1 {wr : World} {A : Option Addr} {F : Fo} (h : Kids (Lt wr.heap.size) wr A F) (o1 : Obj) : Kids (Lt (wr.alloc o1).heap.size) (wr.alloc o1) A F :=
  (h.below ((Below.refl wr.heap.size wr).alloc (Nat.le_refl _) o1) (Nat.le_refl _)).mono (by simp)
theorem below_al1 {w w2 : World} {o : Obj} (hb : Below (w.alloc o).heap.size (w.alloc o) w2) : Below w.heap.size w w2 := ((Below.refl _ _).alloc (Nat.le_refl _) o).trans (hb.mono (by simp))

set_option maxRecDepth 100000 in
set_option maxHeartbeats 2000000 in
theorem isDecl_any (h : Hd) (F : Fo) (A : Option Addr) (cap : Nat) (w : World) (hk : Kids (Lt w.heap.size) w A F) (hm : F.len ≤ 1048576) : Calls Tryz.prog 83 #[nv h A F.len cap] w fun e w' => e = .returned (.bool (declT h F)) ∧ Below w.heap.size w w' := by
  have HC := Lib.hid (fun o => lastKind_any h F A cap (w.alloc o) (kids_al1 hk o) hm)
  clear hk
  go_enter Tryz.func83, Tryz.ntmps83
  go_wp2_with (go_at_call 111; refine (HC.out _).mono ?_; rintro e w' ⟨rfl, hb⟩)
  all_goals go_ret
  all_goals first
    | exact ⟨ret_bool (by unfold declT; simp_all), (Below.refl _ _).alloc (Nat.le_refl _) _⟩
    | exact ⟨ret_bool (by unfold declT; simp_all), below_al1 hb⟩
set_option maxRecDepth 100000 in
set_option maxHeartbeats 2000000 in
theorem isComm_any (h : Hd) (F : Fo) (A : Option Addr) (cap : Nat) (w : World) (hk : Kids (Lt w.heap.size) w A F) (hm : F.len ≤ 1048576) : Calls Tryz.prog 88 #[nv h A F.len cap] w fun e w' => e = .returned (.bool (commT h F)) ∧ Below w.heap.size w w' := by
  have HC := Lib.hid (fun o => lastKind_any h F A cap (w.alloc o) (kids_al1 hk o) hm)
  clear hk
  go_enter Tryz.func88, Tryz.ntmps88
  go_wp2_with (go_at_call 111; refine (HC.out _).mono ?_; rintro e w' ⟨rfl, hb⟩)
  all_goals go_ret
  all_goals first
    | exact ⟨ret_bool (by unfold commT; simp_all), (Below.refl _ _).alloc (Nat.le_refl _) _⟩
    | exact ⟨ret_bool (by unfold commT; simp_all), below_al1 hb⟩
end Go.Proofs.YticbcnhbpbaocaaGreatDoor

namespace Go.Proofs.YticbcnhbpbaocaaGreatDoor
open Go.RowKit T T.Fo

/-- A set of nodes that is no option. -/
inductive Pb where
  | decl | typ | expr | stmt | comm | one (ks : List Int)
/-- A place. -/
inductive Pp where
  | base (p : Pb)
  | opt (p : Pb)
def Pb.ok : Pb → Pl
  | .decl => declT
  | .typ => isT
  | .expr => isE
  | .stmt => isS
  | .comm => commT
  | .one ks => T.one ks
def Pp.ok : Pp → Pl
  | .base p => p.ok
  | .opt p => T.opt p.ok

/-- The function value that stands for a set, in w; what it leads to lies in S. -/
def Pb.Is (S : Nat → Prop) (w : World) (v : Value) : Pb → Prop
  | .decl => v = .func (.func 83) #[] #[]
  | .typ => v = .func (.func 84) #[] #[]
  | .expr => v = .func (.func 86) #[] #[]
  | .stmt => v = .func (.func 87) #[] #[]
  | .comm => v = .func (.func 88) #[] #[]
  | .one ks => ∃ b g c, v = .func (.func 108) #[] #[.pointer (some ⟨b, 0, none⟩)] ∧ S b ∧ S g ∧ w.cell? ⟨b, 0, none⟩ = some (.slice (some ⟨g, 0, none⟩) ks.length c) ∧ (∀ j, j < ks.length → w.cell? ⟨g, 0 + j, none⟩ = some (.int .i64 (ks.getD j 0))) ∧ ks.length ≤ 4
def Pp.Is (S : Nat → Prop) (w : World) (v : Value) : Pp → Prop
  | .base p => p.Is S w v
  | .opt p => ∃ b v', v = .func (.func 112) #[] #[.pointer (some ⟨b, 0, none⟩)] ∧ S b ∧ w.cell? ⟨b, 0, none⟩ = some v' ∧ p.Is S w v'
theorem Pb.Is.carry {S S' : Nat → Prop} {w w' : World} {v : Value} {p : Pb} (h : p.Is S w v) (H : ∀ b, S b → S' b ∧ w'.heap[b]? = w.heap[b]?) : p.Is S' w' v := by
  cases p with
  | one ks =>
    obtain ⟨b, g, c, h1, h2, h3, h4, h5, h6⟩ := h
    exact ⟨b, g, c, h1, (H b h2).1, (H g h3).1, (World.cell?_of_block (a := ⟨b, 0, none⟩) (H b h2).2).trans h4, fun j hj => (World.cell?_of_block (a := ⟨g, 0 + j, none⟩) (H g h3).2).trans (h5 j hj), h6⟩
  | _ => exact h
theorem Pp.Is.carry {S S' : Nat → Prop} {w w' : World} {v : Value} {p : Pp} (h : p.Is S w v) (H : ∀ b, S b → S' b ∧ w'.heap[b]? = w.heap[b]?) : p.Is S' w' v := by
  cases p with
  | base p => exact Pb.Is.carry h H
  | opt p =>
    obtain ⟨b, v', h1, h2, h3, h4⟩ := h
    exact ⟨b, v', h1, (H b h2).1, (World.cell?_of_block (a := ⟨b, 0, none⟩) (H b h2).2).trans h3, h4.carry H⟩

set_option maxRecDepth 100000 in
theorem oneOf1_any (h : Hd) (A : Option Addr) (n cap b g c : Nat) (ks : List Int) (w : World) (hb : b < w.heap.size) (hg : g < w.heap.size) (hc : w.cell? ⟨b, 0, none⟩ = some (.slice (some ⟨g, 0, none⟩) ks.length c)) (hks : ∀ j, j < ks.length → w.cell? ⟨g, 0 + j, none⟩ = some (.int .i64 (ks.getD j 0))) (hl : ks.length ≤ 4) :
    Calls Tryz.prog 108 #[nv h A n cap, .pointer (some ⟨b, 0, none⟩)] w fun e w' => e = .returned (.bool (ks.contains h.kind)) ∧ Below w.heap.size w w' := by
  have HC := Lib.hid (fun o => Tryz.slices_Contains_int g 0 ks.length c ks h.kind (w.alloc o) (Nat.le_refl _) (by omega) (fun j hj => (World.cell?_alloc_lt _ _ _ hg).trans (hks j hj)))
  have HT : Hid (ks.take ks.length = ks) := List.take_length
  clear hks
  go_enter Tryz.func108, Tryz.ntmps108
  go_wp2_with (go_at_call 109; refine (HC.out _).mono ?_; rintro e w' ⟨rfl, rfl⟩)
  go_ret
  exact ⟨ret_bool (by simp), (Below.refl _ _).alloc (Nat.le_refl _) _⟩
theorem one_at {w : World} {b g c : Nat} {ks : List Int} (o : Obj) (hb : b < w.heap.size) (hg : g < w.heap.size) (hc : w.cell? ⟨b, 0, none⟩ = some (.slice (some ⟨g, 0, none⟩) ks.length c)) (hks : ∀ j, j < ks.length → w.cell? ⟨g, 0 + j, none⟩ = some (.int .i64 (ks.getD j 0))) (hl : ks.length ≤ 4) (h : Hd) (A : Option Addr) (n cap : Nat) :
    Calls Tryz.prog 108 #[nv h A n cap, .pointer (some ⟨b, 0, none⟩)] (w.alloc o) fun e w' => e = .returned (.bool (ks.contains h.kind)) ∧ Below (w.alloc o).heap.size (w.alloc o) w' :=
  oneOf1_any h A n cap b g c ks (w.alloc o) (by simp; omega) (by simp; omega) ((World.cell?_alloc_lt _ _ _ hb).trans hc) (fun j hj => (World.cell?_alloc_lt _ _ _ hg).trans (hks j hj)) hl

set_option maxRecDepth 100000 in
set_option maxHeartbeats 4000000 in
theorem opt1_any (p : Pb) (v : Value) (h : Hd) (F : Fo) (A : Option Addr) (cap b : Nat) (w : World) (hb : b < w.heap.size) (hc : w.cell? ⟨b, 0, none⟩ = some v) (hv : p.Is (Lt w.heap.size) w v) (hk : Kids (Lt w.heap.size) w A F) (hm : F.len ≤ 1048576) :
    Calls Tryz.prog 112 #[nv h A F.len cap, .pointer (some ⟨b, 0, none⟩)] w fun e w' => e = .returned (.bool (T.opt p.ok h F)) ∧ Below w.heap.size w w' := by
  have H9 : Hid (h.kind = 9 → T.opt p.ok h F = true) := fun e => by simp [T.opt, e]
  have HN : Hid (h.kind ≠ 9 → T.opt p.ok h F = p.ok h F) := fun e => by simp [T.opt, e]
  by_cases h9 : h.kind = 9
  · have e9 : (h.kind == 9) = true := by simpa using h9
    have H99 := Lib.hid (H9.out h9)
    clear h9 hv hk
    go_enter Tryz.func112, Tryz.ntmps112
    go_wp2
    go_ret
    exact ⟨ret_bool H99.out.symm, (Below.refl _ _).alloc (Nat.le_refl _) _⟩
  · have e9 : (h.kind == 9) = false := by simpa using h9
    have H99 := Lib.hid (HN.out h9)
    clear h9
    cases p with
    | decl =>
      obtain rfl : v = .func (.func 83) #[] #[] := hv
      have HC := Lib.hid (fun o => isDecl_any h F A cap (w.alloc o) (kids_al1 hk o) hm)
      clear hk
      go_enter Tryz.func112, Tryz.ntmps112
      go_wp2_with (go_at_call 83; refine (HC.out _).mono ?_; rintro e w' ⟨rfl, hb2⟩)
      go_ret
      exact ⟨ret_bool H99.out.symm, below_al1 hb2⟩
    | typ =>
      obtain rfl : v = .func (.func 84) #[] #[] := hv
      have HC := Lib.hid (fun o => isType_any h A F.len cap (w.alloc o))
      clear hk
      go_enter Tryz.func112, Tryz.ntmps112
      go_wp2_with (go_at_call 84; refine (HC.out _).mono ?_; rintro e w' ⟨rfl, hb2⟩)
      go_ret
      exact ⟨ret_bool H99.out.symm, below_al1 hb2⟩
    | expr =>
      obtain rfl : v = .func (.func 86) #[] #[] := hv
      have HC := Lib.hid (fun o => isExpr_any h A F.len cap (w.alloc o))
      clear hk
      go_enter Tryz.func112, Tryz.ntmps112
      go_wp2_with (go_at_call 86; refine (HC.out _).mono ?_; rintro e w' ⟨rfl, hb2⟩)
      go_ret
      exact ⟨ret_bool H99.out.symm, below_al1 hb2⟩
    | stmt =>
      obtain rfl : v = .func (.func 87) #[] #[] := hv
      have HC := Lib.hid (fun o => isStmt_any h A F.len cap (w.alloc o))
      clear hk
      go_enter Tryz.func112, Tryz.ntmps112
      go_wp2_with (go_at_call 87; refine (HC.out _).mono ?_; rintro e w' ⟨rfl, hb2⟩)
      go_ret
      exact ⟨ret_bool H99.out.symm, below_al1 hb2⟩
    | comm =>
      obtain rfl : v = .func (.func 88) #[] #[] := hv
      have HC := Lib.hid (fun o => isComm_any h F A cap (w.alloc o) (kids_al1 hk o) hm)
      clear hk
      go_enter Tryz.func112, Tryz.ntmps112
      go_wp2_with (go_at_call 88; refine (HC.out _).mono ?_; rintro e w' ⟨rfl, hb2⟩)
      go_ret
      exact ⟨ret_bool H99.out.symm, below_al1 hb2⟩
    | one ks =>
      obtain ⟨b', g, c, rfl, hb', hg, hcb, hks, hl⟩ := hv
      have HC := Lib.hid (fun o => one_at o hb' hg hcb hks hl h A F.len cap)
      clear hk hb' hg hcb hks
      go_enter Tryz.func112, Tryz.ntmps112
      go_wp2_with (go_at_call 108; refine (HC.out _).mono ?_; rintro e w' ⟨rfl, hb2⟩)
      go_ret
      exact ⟨ret_bool (by rw [H99.out]; simp [Pb.ok, T.one]), below_al1 hb2⟩

set_option maxRecDepth 100000 in
set_option maxHeartbeats 4000000 in
/-- The predicate that EqualFunc is handed: it asks the place. -/
theorem pred_any (p : Pp) (v : Value) (h : Hd) (F : Fo) (A : Option Addr) (cap : Nat) (w : World) (hv : p.Is (Lt w.heap.size) w v) (hk : Kids (Lt w.heap.size) w A F) (hm : F.len ≤ 1048576) :
    Calls Tryz.prog 63 #[nv h A F.len cap, v] w fun e w' => e = .returned (.bool (p.ok h F)) ∧ Below w.heap.size w w' := by
  cases p with
  | opt p =>
    obtain ⟨b, v', rfl, hb, hc, hv'⟩ := hv
    have HC := Lib.hid (fun o => opt1_any p v' h F A cap b (w.alloc o) (by simp; have : b < w.heap.size := hb; omega) ((World.cell?_alloc_lt _ _ _ hb).trans hc) (hv'.carry fun x hx => ⟨by have : x < w.heap.size := hx; show x < _; simp; omega, Below.heap_alloc w o x hx⟩) (kids_al1 hk o) hm)
    clear hk hv' hc hb
    go_enter Tryz.func63, Tryz.ntmps63
    go_wp2_with (go_at_call 112; refine (HC.out _).mono ?_; rintro e w' ⟨rfl, hb2⟩)
    go_ret
    exact ⟨rfl, below_al1 hb2⟩
  | base p =>
    cases p with
    | decl =>
      obtain rfl : v = .func (.func 83) #[] #[] := hv
      have HC := Lib.hid (fun o => isDecl_any h F A cap (w.alloc o) (kids_al1 hk o) hm)
      clear hk
      go_enter Tryz.func63, Tryz.ntmps63
      go_wp2_with (go_at_call 83; refine (HC.out _).mono ?_; rintro e w' ⟨rfl, hb2⟩)
      go_ret
      exact ⟨rfl, below_al1 hb2⟩
    | typ =>
      obtain rfl : v = .func (.func 84) #[] #[] := hv
      have HC := Lib.hid (fun o => isType_any h A F.len cap (w.alloc o))
      clear hk
      go_enter Tryz.func63, Tryz.ntmps63
      go_wp2_with (go_at_call 84; refine (HC.out _).mono ?_; rintro e w' ⟨rfl, hb2⟩)
      go_ret
      exact ⟨rfl, below_al1 hb2⟩
    | expr =>
      obtain rfl : v = .func (.func 86) #[] #[] := hv
      have HC := Lib.hid (fun o => isExpr_any h A F.len cap (w.alloc o))
      clear hk
      go_enter Tryz.func63, Tryz.ntmps63
      go_wp2_with (go_at_call 86; refine (HC.out _).mono ?_; rintro e w' ⟨rfl, hb2⟩)
      go_ret
      exact ⟨rfl, below_al1 hb2⟩
    | stmt =>
      obtain rfl : v = .func (.func 87) #[] #[] := hv
      have HC := Lib.hid (fun o => isStmt_any h A F.len cap (w.alloc o))
      clear hk
      go_enter Tryz.func63, Tryz.ntmps63
      go_wp2_with (go_at_call 87; refine (HC.out _).mono ?_; rintro e w' ⟨rfl, hb2⟩)
      go_ret
      exact ⟨rfl, below_al1 hb2⟩
    | comm =>
      obtain rfl : v = .func (.func 88) #[] #[] := hv
      have HC := Lib.hid (fun o => isComm_any h F A cap (w.alloc o) (kids_al1 hk o) hm)
      clear hk
      go_enter Tryz.func63, Tryz.ntmps63
      go_wp2_with (go_at_call 88; refine (HC.out _).mono ?_; rintro e w' ⟨rfl, hb2⟩)
      go_ret
      exact ⟨rfl, below_al1 hb2⟩
    | one ks =>
      obtain ⟨b', g, c, rfl, hb', hg, hcb, hks, hl⟩ := hv
      have HC := Lib.hid (fun o => one_at o hb' hg hcb hks hl h A F.len cap)
      clear hk hb' hg hcb hks
      go_enter Tryz.func63, Tryz.ntmps63
      go_wp2_with (go_at_call 108; refine (HC.out _).mono ?_; rintro e w' ⟨rfl, hb2⟩)
      go_ret
      exact ⟨ret_bool (by simp [Pp.ok, Pb.ok, T.one]), below_al1 hb2⟩
end Go.Proofs.YticbcnhbpbaocaaGreatDoor

namespace Go.Proofs.YticbcnhbpbaocaaGreatDoor
open Go.RowKit T T.Fo

theorem info70 : (Tryz.prog.info? 70).map (fun i => (i.zero, i.size, i.bytes)) = some (some .nilFunc, 1, 8) := by kernel_rfl
theorem size70 : (Tryz.prog.info? 70).map (·.size) = some 1 := by kernel_rfl
/-- The row: d places filled, the rest not yet. -/
def fillRow (v : Value) (d n : Nat) : List Value := List.replicate d v ++ List.replicate (n - d) .nilFunc
theorem fill_len (v : Value) (d n : Nat) (h : d ≤ n) : (fillRow v d n).length = n := by simp [fillRow]; omega
theorem fill_splice (v : Value) (d n m : Nat) (h : d ≤ n) (hm : m = min d (n - d)) : splice (fillRow v d n) d (List.replicate m v) = fillRow v (d + m) n := by
  unfold splice fillRow
  have h1 : d + m ≤ n := by omega
  rw [List.take_append_of_le_length (by simp), List.take_of_length_le (by simp), List.length_replicate, List.drop_append, List.drop_of_length_le (by simp), List.nil_append, List.length_replicate, List.drop_replicate, ← List.append_assoc, List.replicate_append_replicate]
  congr 2
  omega
theorem fill_get (v : Value) (d n j : Nat) (h : j < d) : (fillRow v d n)[j]? = some v := by
  unfold fillRow
  rw [List.getElem?_append_left (by simpa using h)]
  simp [h]
theorem fill_cell {w : World} {g d n j : Nat} {v : Value} (h : w.heap[g]? = some (.cells (fillRow v d n).toArray 70 (0, 0))) (hj : j < d) : w.cell? ⟨g, j, none⟩ = some v := by
  simp only [World.cell?, h]
  rw [List.getElem?_toArray]
  exact fill_get v d n j hj
theorem fill_start (v : Value) (n m : Nat) (hm : m = min 1 n) : splice (fillRow .nilFunc 0 n) 0 (List.replicate m v) = fillRow v m n := by
  unfold splice fillRow
  simp
theorem made70 (n : Nat) : madeCells (Value.cells Value.nilFunc) (n * 1) = (fillRow .nilFunc 0 n).toArray := by
  apply Array.toList_inj.1
  have e : Value.cells Value.nilFunc = #[Value.nilFunc] := rfl
  rw [e, toList_madeCells_one]
  simp [fillRow]

set_option maxRecDepth 100000 in
set_option maxHeartbeats 2000000 in
theorem repeat_x (v : Value) (hv1 : v.oneCell' = true) (g0 n : Nat) (w : World) (hg : w.cell? ⟨g0, 0, none⟩ = some v) (hn : n ≤ 1048576) :
    Calls Tryz.prog 110 #[.slice (some ⟨g0, 0, none⟩) 1 1, .int .i64 (n : Int)] w fun e w' => e = .returned (.slice (some ⟨w.heap.size, 0, none⟩) n n) ∧ w'.heap[w.heap.size]? = some (.cells (fillRow v n n).toArray 70 (0, 0)) ∧ Below w.heap.size w w' := by
  obtain ⟨i0, hi, hz0, hz1, hz2⟩ := info_parts info70
  have HM := Lib.hid (fun wz : World => (Tryz.bits_Mul 1 n (by omega) (by omega) wz).mono fun _ _ h => And.intro h.1 h.2.symm)
  have hmk : ∀ wz : World, (Instr.makeSlice 69 (.int .i64 (n : Int)) (.int .i64 (n : Int))).run Tryz.prog wz = .ok (.slice (some ⟨wz.heap.size, 0, none⟩) n n) (wz.alloc (.cells (fillRow .nilFunc 0 n).toArray 70)) := fun wz => by
    have := run_make wz 69 70 i0 .nilFunc Tryz.underlying69 hi hz0 .i64 .i64 (n : Int) (n : Int) (by omega) (Int.le_refl _) (by rw [hz2]; omega) (by omega)
    simp only [Int.toNat_natCast, hz1, made70] at this
    exact this
  have hlt : g0 < w.heap.size := World.block_lt_of_cell? w _ hg
  have HI := Lib.hid hi
  clear hi hz0 hz1 hz2
  have e1 : (1 * n / 18446744073709551616 : Nat) = 0 := by omega
  have e2 : (1 * n % 18446744073709551616 : Nat) = n := by omega
  rw [e1, e2] at HM
  clear e1 e2
  obtain ⟨m, hmm⟩ : ∃ m, m = min 1 n := ⟨_, rfl⟩
  have HMM := Lib.hid hmm
  have hG : ∀ o : Obj, (w.alloc o).heap[w.heap.size]? = some o := fun o => heap_alloc_new w o
  have HG := Lib.hid hG
  have HV := Lib.hid hv1
  clear hG hv1 hmm
  have hdn : decide ((9223372036854775807 : Int) < (n : Int)) = false := by rw [decide_eq_false_iff_not]; omega
  have hn0 : decide ((n : Int) < 0) = false := by rw [decide_eq_false_iff_not]; omega
  go_enter Tryz.func110, Tryz.ntmps110
  go_upto_region 7 with (go_at_call 124; refine (HM.out _).mono ?_; rintro e w' ⟨rfl, rfl⟩)
  refine wp_region_lit ?_
  iterate 6 go_step
  refine wpList_copy_splice rfl (.tmp 31) (.tmp 32) 69 69 rfl 70 Tryz.underlying69 size70 (some ⟨w.heap.size, 0, none⟩) (some ⟨g0, 0, none⟩) n n 1 1 rfl rfl w.heap.size 0 (fillRow .nilFunc 0 n) 70 (HG.out _) (List.replicate m v) ?c1 ?c2 ?c3 ?c4 w.heap.size w ?c5 (Nat.le_refl _) ?_
  case c1 => exact (List.length_replicate).trans HMM.out
  case c2 =>
    intro h0
    refine ⟨rfl, ⟨g0, 0, none⟩, rfl, fun j x hj => ?_⟩
    have hj0 : j = 0 := by
      have := (List.getElem?_eq_some_iff.1 hj).1
      rw [List.length_replicate, HMM.out] at this; omega
    subst hj0
    have : x = v := by
      have := (List.getElem?_eq_some_iff.1 hj).2
      simpa using this.symm
    subst this
    show (w.alloc _).cell? ⟨g0, 0, none⟩ = _
    rw [World.cell?_alloc_lt _ _ _ hlt]
    exact hg
  case c3 => rw [fill_len _ _ _ (Nat.zero_le _), List.length_replicate, HMM.out]; omega
  case c4 =>
    intro x hx
    rw [List.eq_of_mem_replicate hx]
    exact HV.out
  case c5 => exact (Below.refl _ _).alloc (Nat.le_refl _) _
  intro w4 hg4 hb4
  have H4 : Hid (w4.heap[w.heap.size]? = some (.cells (fillRow v m n).toArray 70 (0, 0))) := by have := hg4.out; rwa [fill_start v n m HMM.out] at this
  have HB4 := Lib.hid hb4
  have hmn : m ≤ n := by have := HMM.out; omega
  clear hg4 hb4
  rw [List.length_replicate]
  go_wp2
  go_loopw [8] (fun ix wr => ∃ d : Nat, ix = .int .i64 (d : Int) ∧ m ≤ d ∧ d ≤ n ∧ wr.heap[w.heap.size]? = some (.cells (fillRow v d n).toArray 70 (0, 0)) ∧ Below w.heap.size w wr) (fun ix _ => n - (intOf ix).toNat)
  case atStart => exact ⟨m, rfl, Nat.le_refl _, hmn, H4.out, HB4.out⟩
  case round =>
    obtain ⟨d, rfl, hmd, hdn2, hrow, hb⟩ := hrel
    have HROW := Lib.hid hrow
    have HB := Lib.hid hb
    clear hrow hb
    by_cases hlt2 : d < n
    · have hd1 : (d : Int) < (n : Int) := by omega
      have hd0 : (0 : Int) ≤ (d : Int) := by omega
      have hd2 : (d : Int) ≤ (n : Int) := by omega
      have hne : ¬ n = d := by omega
      go_wp2
      have hrow2 : wr.drew.heap[w.heap.size]? = some (.cells (fillRow v d n).toArray 70 (0, 0)) := HROW.out
      have HR2 := Lib.hid hrow2
      clear hrow2
      have hc : ∀ x ∈ List.replicate (min d (n - d)) v, x.oneCell' = true := fun x hx => by rw [List.eq_of_mem_replicate hx]; exact HV.out
      have HC := Lib.hid hc
      clear hc
      have hp : 0 < (List.replicate (min d (n - d)) v).length → some (⟨w.heap.size, d, none⟩ : Addr) = some ⟨w.heap.size, d, none⟩ ∧ ∃ ad : Addr, some (⟨w.heap.size, 0, none⟩ : Addr) = some ad ∧ ∀ (j : Nat) x, (List.replicate (min d (n - d)) v)[j]? = some x → wr.drew.cell? (ad.add j) = some x := fun _ => by
        refine ⟨rfl, ⟨w.heap.size, 0, none⟩, rfl, fun j x hj => ?_⟩
        have hj1 := (List.getElem?_eq_some_iff.1 hj).1
        rw [List.length_replicate] at hj1
        have hx : x = v := by have := (List.getElem?_eq_some_iff.1 hj).2; simpa using this.symm
        subst hx
        have hadd : (⟨w.heap.size, 0, none⟩ : Addr).add j = ⟨w.heap.size, j, none⟩ := by unfold Addr.add; split <;> simp_all
        rw [hadd]
        exact fill_cell (d := d) HR2.out (by omega)
      have HP := Lib.hid hp
      clear hp
      have hl : (List.replicate (min d (n - d)) v).length = Nat.min d (n - d) := List.length_replicate
      have HL := Lib.hid hl
      have hf : d + (List.replicate (min d (n - d)) v).length ≤ (fillRow v d n).length := by rw [List.length_replicate, fill_len _ _ _ hdn2]; omega
      have HF := Lib.hid hf
      clear hl hf
      go_region_law (refine step_copy_splice rfl (.tmp 41) (.tmp 44) 69 69 rfl 70 Tryz.underlying69 size70 (some ⟨w.heap.size, d, none⟩) (some ⟨w.heap.size, 0, none⟩) (n - d) (n - d) d n (by simp [Act.eval, Act.put]) (by simp [Act.eval, Act.put]) w.heap.size d (fillRow v d n) 70 HR2.out (List.replicate (min d (n - d)) v) HL.out HP.out HF.out HC.out w.heap.size w HB.out.drew (Nat.le_refl _) ?_; intro w5 hg5 hb5)
      have H5 : Hid (w5.heap[w.heap.size]? = some (.cells (fillRow v (d + min d (n - d)) n).toArray 70 (0, 0))) := by have := hg5.out; rwa [fill_splice v d n _ hdn2 rfl] at this
      have HB5 := Lib.hid hb5
      clear hg5 hb5
      obtain ⟨q, hq⟩ : ∃ q, q = min d (n - d) := ⟨_, rfl⟩
      rw [← hq] at H5 ⊢
      have hq1 : 0 < d → 0 < q := by omega
      have hq2 : d + q ≤ n := by omega
      have hd00 : 0 < d := by have := HMM.out; omega
      have hwr : IntKind.i64.wrap ((d : Int) + (q : Int)) = (d : Int) + (q : Int) := IntWalk.i64_in _ (by omega)
      rw [hwr]
      clear hq hwr
      go_wp2
      go_roundw
      case rel => exact ⟨d + q, by go_num, by omega, hq2, H5.out, HB5.out⟩
      case measure => simp [intOf]; omega
    · go_wp2
      go_ret
      obtain rfl : d = n := by omega
      exact ⟨rfl, HROW.out, HB.out⟩
end Go.Proofs.YticbcnhbpbaocaaGreatDoor

namespace Go.Proofs.YticbcnhbpbaocaaGreatDoor
open Go.RowKit T T.Fo

set_option maxRecDepth 100000 in
theorem oneOf_any (A : Option Addr) (n c : Nat) (w : World) : Calls Tryz.prog 81 #[.slice A n c] w fun e w' => e = .returned (.func (.func 108) #[] #[.pointer (some ⟨w.heap.size, 0, none⟩)]) ∧ w' = w.alloc (.cells #[.slice A n c] 90) := by
  go_enter Tryz.func81, Tryz.ntmps81
  go_wp2
  go_ret
  exact ⟨rfl, rfl⟩
set_option maxRecDepth 100000 in
theorem optional_any (v : Value) (w : World) (hv : v.oneCell' = true) : Calls Tryz.prog 85 #[v] w fun e w' => e = .returned (.func (.func 112) #[] #[.pointer (some ⟨w.heap.size, 0, none⟩)]) ∧ w' = w.alloc (.cells #[v] 70) := by
  go_enter Tryz.func85, Tryz.ntmps85
  go_wp2
  go_ret
  exact ⟨rfl, rfl⟩
set_option maxRecDepth 100000 in
theorem repeat_any (f : Fn) (cp : Array Value) (w : World) (n : Nat) (hn : n ≤ 1048576) : Calls Tryz.prog 82 #[.func f #[] cp, .int .i64 (n : Int)] w fun e w' => ∃ g, e = .returned (.slice (some ⟨g, 0, none⟩) n n) ∧ w.heap.size ≤ g ∧ g < w'.heap.size ∧ w'.heap[g]? = some (.cells (fillRow (.func f #[] cp) n n).toArray 70 (0, 0)) ∧ Below w.heap.size w w' := by
  have HC := Lib.hid (repeat_x (.func f #[] cp) rfl w.heap.size n (w.alloc (.cells #[.func f #[] cp] 70)) (by rw [al_new1]) hn)
  go_enter Tryz.func82, Tryz.ntmps82
  go_wp2_with (go_at_call 110; refine HC.out.mono ?_; rintro e w' ⟨rfl, h1, h2⟩)
  go_ret
  exact ⟨w.heap.size + 1, by simp, by omega, by have := (Array.getElem?_eq_some_iff.1 h1).1; simpa using this, by simpa using h1, below_al1 h2⟩

/-- Function values for a row of places. -/
def PlRow (S : Nat → Prop) (w : World) (A : Option Addr) (l : List Pp) : Prop :=
  l = [] ∨ ∃ g, A = some ⟨g, 0, none⟩ ∧ S g ∧ ∀ i (h : i < l.length), ∃ v, w.cell? ⟨g, i, none⟩ = some v ∧ v.oneCell' = true ∧ l[i].Is S w v
theorem PlRow.carry {S S' : Nat → Prop} {w w' : World} {A : Option Addr} {l : List Pp} (h : PlRow S w A l) (H : ∀ b, S b → S' b ∧ w'.heap[b]? = w.heap[b]?) : PlRow S' w' A l := by
  rcases h with h | ⟨g, h1, h2, h3⟩
  · exact .inl h
  · refine .inr ⟨g, h1, (H g h2).1, fun i hi => ?_⟩
    obtain ⟨v, h4, h5, h6⟩ := h3 i hi
    exact ⟨v, (World.cell?_of_block (a := ⟨g, i, none⟩) (H g h2).2).trans h4, h5, h6.carry H⟩
/-- Whether children fit places. -/
def fitP (l : List Pp) (F : Fo) : Bool := fits (l.map Pp.ok) F
theorem fitP_len {l : List Pp} {F : Fo} (h : F.len ≠ l.length) : fitP l F = false := by
  unfold fitP
  induction l generalizing F with
  | nil => cases F with
    | nil => exact absurd rfl h
    | cons h' k r => rfl
  | cons p l ih => cases F with
    | nil => rfl
    | cons h' k r =>
      have := ih (F := r) (fun e => h (by simp [Fo.len, e]))
      simp [fits, this]
theorem fitP_cons (p : Pp) (l : List Pp) (h : Hd) (k r : Fo) : fitP (p :: l) (.cons h k r) = (p.ok h k && fitP l r) := rfl
theorem fitP_nil : fitP [] .nil = true := rfl

set_option maxRecDepth 100000 in
set_option maxHeartbeats 2000000 in
theorem eqplaces_any (F : Fo) (l : List Pp) (A B : Option Addr) (cap cb : Nat) (w : World) (hk : Kids (Lt w.heap.size) w A F) (hp : PlRow (Lt w.heap.size) w B l) (hm : F.cnt ≤ 1048576) :
    Calls Tryz.prog 61 #[.slice A F.len cap, .slice B l.length cb, .func (.func 63) #[] #[]] w fun e w' => e = .returned (.bool (fitP l F)) ∧ Below w.heap.size w w' := by
  have HR := Lib.hid (Rest.start hk)
  have HPL := Lib.hid hp
  have hlen : F.len ≤ F.cnt := F.len_le_cnt
  clear hk hp
  obtain ⟨m, hmm⟩ : ∃ m, F.len = m := ⟨_, rfl⟩
  obtain ⟨m2, hmm2⟩ : ∃ m, l.length = m := ⟨_, rfl⟩
  have hfl : m ≤ 1048576 := by omega
  rw [hmm, hmm2]
  have HM := Lib.hid hmm
  have HM2 := Lib.hid hmm2
  by_cases hne : m = m2
  · subst hne
    have e0 : ((m : Int) != (m : Int)) = false := by simp
    clear hlen hmm hmm2
    go_enter Tryz.func61, Tryz.ntmps61
    go_wp2
    go_loopw [17] (fun ix wr => ∃ (i : Nat) (R : Fo), ix = .int .i64 (i : Int) ∧ i ≤ m ∧ Rest (Lt w.heap.size) w A F i R ∧ fitP l F = fitP (l.drop i) R ∧ R.cnt ≤ F.cnt ∧ Below w.heap.size w wr) (fun ix _ => m - (intOf ix).toNat)
    case atStart => exact ⟨0, F, rfl, Nat.zero_le _, HR.out, rfl, Nat.le_refl _, Below.refl _ _⟩
    case round =>
      obtain ⟨i, R, rfl, him, hr, hs, hb1, hb⟩ := hrel
      have HB := Lib.hid hb
      have hz := hb.size
      have HS := Lib.hid hs
      cases R with
      | nil =>
        have hi := hr.stop
        rw [HM.out] at hi
        subst hi
        clear hs hr hb
        go_wp2
        go_ret
        exact ⟨ret_bool (by rw [HS.out, List.drop_of_length_le (by rw [HM2.out]; exact Nat.le_refl _), fitP_nil]), HB.out⟩
      | cons hd kd r =>
        obtain ⟨g, o, Ak, ck, rfl, ⟨a0, a1, a2, a3, a4, a5, a6, a7, a8⟩, _, hk1, _, hi1, hg1⟩ := (hr.below hb (Nat.le_refl _)).next
        have hrw := hr.tail
        rw [HM.out] at hi1
        have hil : i < l.length := by have := HM2.out; omega
        rcases HPL.out with hpl | ⟨g2, rfl, hg2, hrow⟩
        · rw [hpl] at hil; simp at hil
        · obtain ⟨v, hv1, hv2, hv3⟩ := hrow i hil
          rw [List.drop_eq_getElem_cons hil, fitP_cons] at hs
          have HS2 := Lib.hid hs
          generalize l[i] = p at *
          have hv4 : wr.cell? ⟨g2, i, none⟩ = some v := (hb.cell (p := ⟨g2, i, none⟩) hg2).trans hv1
          simp only [Fo.cnt] at hb1
          have hkl : kd.len ≤ 1048576 := by have := kd.len_le_cnt; omega
          have HC := Lib.hid (fun o1 => pred_any p v hd kd Ak ck (wr.alloc o1) (hv3.carry fun x hx => ⟨by have : x < w.heap.size := hx; show x < _; simp; omega, (Below.heap_alloc wr o1 x (by have : x < w.heap.size := hx; omega)).trans (hb.block x hx)⟩) ((hk1.below ((Below.refl w.heap.size wr).alloc hz o1) (Nat.le_refl _)).mono (by simp; omega)) hkl)
          have HR1 := Lib.hid hrw
          have hg1' : g < w.heap.size := hg1
          have hg2' : g2 < w.heap.size := hg2
          have hzg : g < wr.heap.size := by omega
          have hzg2 : g2 < wr.heap.size := by omega
          have HV2 := Lib.hid hv2
          clear hr hk1 hrw hs HS hb hg1 hg2 hv1 hv2 hv3 hrow hil hkl
          have hj1 : (i : Int) < (m : Int) := by omega
          have HL : Hid (∀ o1 w2, Below (wr.alloc o1).heap.size (wr.alloc o1) w2 → Below w.heap.size w w2) := fun o1 w2 hb => HB.out.trans (((Below.refl w.heap.size wr).alloc hz o1).trans (hb.mono (by simp; omega)))
          by_cases hvv : p.ok hd kd = true
          · have HV := Lib.hid hvv
            rw [hvv] at HC
            clear hvv
            go_wp2_with fail
            refine (HC.out _).mono ?_
            rintro e w2 ⟨rfl, hb⟩
            have B2 := Lib.hid (HL.out _ _ hb)
            clear hb a0 a1 a2 a3 a4 a5 a6 a7 a8 hv4
            go_wp2
            go_roundw
            case rel => exact ⟨i + 1, r, by go_num, by omega, HR1.out, by rw [HS2.out, HV.out, Bool.true_and], by omega, B2.out⟩
            case measure => simp [intOf]; omega
          · have hv0 : p.ok hd kd = false := by simpa using hvv
            have HV := Lib.hid hv0
            rw [hv0] at HC
            clear hvv hv0
            go_wp2_with fail
            refine (HC.out _).mono ?_
            rintro e w2 ⟨rfl, hb⟩
            have B2 := Lib.hid (HL.out _ _ hb)
            clear hb
            go_wp2
            go_ret
            exact ⟨ret_bool (by rw [HS2.out, HV.out, Bool.false_and]), B2.out⟩
  · have e0 : ((m : Int) != (m2 : Int)) = true := by simp; omega
    have HE := Lib.hid (fitP_len (l := l) (F := F) (by omega))
    clear hlen hmm hmm2
    go_enter Tryz.func61, Tryz.ntmps61
    go_wp2
    go_ret
    exact ⟨ret_bool HE.out.symm, Below.refl _ _⟩
end Go.Proofs.YticbcnhbpbaocaaGreatDoor

namespace Go.Proofs.YticbcnhbpbaocaaGreatDoor
open Go.RowKit T T.Fo

abbrev ob (ks : List Int) : Pp := .base (.one ks)
def plist (kind : Int) (n : Nat) : List Pp :=
  if kind = 1 then List.replicate n (.base .decl)
  else if kind = 2 ∨ kind = 5 then List.replicate n (ob [3])
  else if kind = 3 then [.base .typ]
  else if kind = 4 then [ob [5], .opt .typ, ob [10]]
  else if kind = 6 then [.base .typ, .opt .expr]
  else if kind = 10 then List.replicate n (.base .stmt)
  else if kind = 13 then [ob [30, 33]]
  else if kind = 14 ∨ kind = 15 then [ob [30]]
  else if kind = 18 then [.base .expr, ob [10], .opt (.one [10, 18])]
  else if kind = 19 then [.opt .expr, ob [10]]
  else if kind = 20 then List.replicate (min n 1) (.base .expr)
  else if kind = 22 then List.replicate n (ob [23])
  else if kind = 23 then [.opt .comm, ob [10]]
  else if kind = 11 ∨ kind = 17 ∨ kind = 21 ∨ kind = 28 ∨ kind = 31 ∨ kind = 33 ∨ kind = 35 ∨ kind = 36 ∨ kind = 37 then [.base .expr]
  else if kind = 12 ∨ kind = 16 ∨ kind = 29 ∨ kind = 32 then [.base .expr, .base .expr]
  else if kind = 30 then List.replicate (max n 1) (.base .expr)
  else if kind = 38 then [ob [10]]
  else []
theorem plist_ok (kind : Int) (n : Nat) : (plist kind n).map Pp.ok = places kind n := by
  simp only [plist, places, apply_ite (List.map Pp.ok), List.map_replicate, List.map_cons, List.map_nil, Pp.ok, Pb.ok]
theorem fitP_places (h : Hd) (F : Fo) : fitP (plist h.kind F.len) F = childrenFit h F := by
  unfold fitP childrenFit
  rw [plist_ok]

theorem heapA (w : World) (o : Obj) : (w.alloc o).heap = w.heap.push o := rfl
theorem heapD (w : World) : w.drew.heap = w.heap := rfl
/-- A row that Repeat made. -/
theorem plrow_fill {S : Nat → Prop} {w : World} {g n : Nat} {v : Value} {p : Pp} (h : w.heap[g]? = some (.cells (fillRow v n n).toArray 70 (0, 0))) (hg : S g) (h1 : v.oneCell' = true) (hp : p.Is S w v) : PlRow S w (some ⟨g, 0, none⟩) (List.replicate n p) :=
  .inr ⟨g, rfl, hg, fun i hi => ⟨v, fill_cell (d := n) h (by simpa using hi), h1, by simpa using hp⟩⟩
/-- What places leaves. -/
def Placed (w : World) (l : List Pp) (e : Ending) (w' : World) : Prop :=
  ∃ A c, e = .returned (.slice A l.length c) ∧ PlRow (Lt w'.heap.size) w' A l ∧ Below w.heap.size w w'
theorem is_one {S : Nat → Prop} {w : World} {b g c : Nat} {ks : List Int} (hb : w.heap[b]? = some (.cells #[.slice (some ⟨g, 0, none⟩) ks.length c] 90 (0, 0))) (hg : w.heap[g]? = some (.cells (ks.map (Value.int .i64)).toArray 3 (0, 0))) (h1 : S b) (h2 : S g) (h3 : ks.length ≤ 4) : (Pb.one ks).Is S w (.func (.func 108) #[] #[.pointer (some ⟨b, 0, none⟩)]) :=
  ⟨b, g, c, rfl, h1, h2, by simp [World.cell?, hb], fun j hj => by simp [World.cell?, hg, hj], h3⟩
theorem is_opt {S : Nat → Prop} {w : World} {b : Nat} {v : Value} {p : Pb} (hb : w.heap[b]? = some (.cells #[v] 70 (0, 0))) (h1 : S b) (hp : p.Is S w v) : (Pp.opt p).Is S w (.func (.func 112) #[] #[.pointer (some ⟨b, 0, none⟩)]) :=
  ⟨b, v, rfl, h1, by simp [World.cell?, hb], hp⟩

theorem plrow1 {S : Nat → Prop} {w : World} {g : Nat} {v0 : Value} {p0 : Pp} (h : w.heap[g]? = some (.cells #[v0] 70 (0, 0))) (hg : S g) (o0 : v0.oneCell' = true) (i0 : p0.Is S w v0) : PlRow S w (some ⟨g, 0, none⟩) [p0] :=
  .inr ⟨g, rfl, hg, fun i hi => by
    match i, hi with
    | 0, _ => exact ⟨v0, by simp [World.cell?, h], o0, i0⟩⟩
theorem plrow2 {S : Nat → Prop} {w : World} {g : Nat} {v0 v1 : Value} {p0 p1 : Pp} (h : w.heap[g]? = some (.cells #[v0, v1] 70 (0, 0))) (hg : S g) (o0 : v0.oneCell' = true) (i0 : p0.Is S w v0) (o1 : v1.oneCell' = true) (i1 : p1.Is S w v1) : PlRow S w (some ⟨g, 0, none⟩) [p0, p1] :=
  .inr ⟨g, rfl, hg, fun i hi => by
    match i, hi with
    | 0, _ => exact ⟨v0, by simp [World.cell?, h], o0, i0⟩
    | 1, _ => exact ⟨v1, by simp [World.cell?, h], o1, i1⟩⟩
theorem plrow3 {S : Nat → Prop} {w : World} {g : Nat} {v0 v1 v2 : Value} {p0 p1 p2 : Pp} (h : w.heap[g]? = some (.cells #[v0, v1, v2] 70 (0, 0))) (hg : S g) (o0 : v0.oneCell' = true) (i0 : p0.Is S w v0) (o1 : v1.oneCell' = true) (i1 : p1.Is S w v1) (o2 : v2.oneCell' = true) (i2 : p2.Is S w v2) : PlRow S w (some ⟨g, 0, none⟩) [p0, p1, p2] :=
  .inr ⟨g, rfl, hg, fun i hi => by
    match i, hi with
    | 0, _ => exact ⟨v0, by simp [World.cell?, h], o0, i0⟩
    | 1, _ => exact ⟨v1, by simp [World.cell?, h], o1, i1⟩
    | 2, _ => exact ⟨v2, by simp [World.cell?, h], o2, i2⟩⟩
/-- Behind a call of repeat. -/
theorem placed_rep {w W w' : World} {g n : Nat} {v : Value} {p : Pp} {l : List Pp} (H : W.heap.size ≤ g ∧ g < w'.heap.size ∧ w'.heap[g]? = some (.cells (fillRow v n n).toArray 70 (0, 0)) ∧ Below W.heap.size W w') (hW : Below w.heap.size w W) (h1 : v.oneCell' = true) (hp : p.Is (Lt W.heap.size) W v) (hl : l = List.replicate n p) :
    Placed w l (.returned (.slice (some ⟨g, 0, none⟩) n n)) w' := by
  subst hl
  refine ⟨some ⟨g, 0, none⟩, n, by rw [List.length_replicate], plrow_fill H.2.2.1 H.2.1 h1 (hp.carry fun b hb => ⟨?_, H.2.2.2.block b hb⟩), hW.trans (H.2.2.2.mono hW.size)⟩
  have : b < W.heap.size := hb
  have := H.2.2.2.size
  show b < _
  omega

/-- The first block of the call: the node's box, the kinds of a block, the closure's box. -/
abbrev W3 (w : World) (h : Hd) (A : Option Addr) (n cap : Nat) : World :=
  (((w.alloc (.cells (#[.int .i64 h.kind, .string h.text, .int .i64 h.num, .int .i64 h.pos, .slice A n cap, .int .i64 h.tk, .string h.tn, .int .i64 h.ref, .int .i64 h.up]) 26)).alloc (.cells #[.int .i64 10] 3)).alloc (.cells #[.slice (some ⟨w.heap.size + 1, 0, none⟩) 1 1] 90)).drew
theorem repeat_one (f : Fn) (cp : Array Value) (w : World) : Calls Tryz.prog 82 #[.func f #[] cp, .int .i64 1] w fun e w' => ∃ g, e = .returned (.slice (some ⟨g, 0, none⟩) 1 1) ∧ w.heap.size ≤ g ∧ g < w'.heap.size ∧ w'.heap[g]? = some (.cells (fillRow (.func f #[] cp) 1 1).toArray 70 (0, 0)) ∧ Below w.heap.size w w' := repeat_any f cp w 1 (by omega)
theorem repeat_two (f : Fn) (cp : Array Value) (w : World) : Calls Tryz.prog 82 #[.func f #[] cp, .int .i64 2] w fun e w' => ∃ g, e = .returned (.slice (some ⟨g, 0, none⟩) 2 2) ∧ w.heap.size ≤ g ∧ g < w'.heap.size ∧ w'.heap[g]? = some (.cells (fillRow (.func f #[] cp) 2 2).toArray 70 (0, 0)) ∧ Below w.heap.size w w' := repeat_any f cp w 2 (by omega)
theorem repeat_zero (f : Fn) (cp : Array Value) (w : World) : Calls Tryz.prog 82 #[.func f #[] cp, .int .i64 0] w fun e w' => ∃ g, e = .returned (.slice (some ⟨g, 0, none⟩) 0 0) ∧ w.heap.size ≤ g ∧ g < w'.heap.size ∧ w'.heap[g]? = some (.cells (fillRow (.func f #[] cp) 0 0).toArray 70 (0, 0)) ∧ Below w.heap.size w w' := repeat_any f cp w 0 (by omega)

end Go.Proofs.YticbcnhbpbaocaaGreatDoor
