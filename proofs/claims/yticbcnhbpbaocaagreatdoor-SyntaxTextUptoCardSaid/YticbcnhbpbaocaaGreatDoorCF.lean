/-
  The iterator of Walk: its recursive closure, its contract.
  Walk's value as an iterator; the walks of Walk and Count.
-/
import Derived.RangeFuncNested
import Derived.RangeFuncBound
import Derived.RangeFuncCalls
import Derived.RangeFuncLeaves
import Derived.Shelf.Abstract
import Derived.Shelf.RegionOpen
import Derived.OwnWalkIn
import Derived.TacticsInMore
import Derived.LoopNIn
import Derived.LoopIn
import Derived.Laws.EntriesVeiled
import Derived.Test.YticbcnhbpbaocaaGreatDoorCA
import Derived.RangeFuncFrom

set_option linter.all false
namespace Go.Proofs.YticbcnhbpbaocaaGreatDoor
open Go.RowKit Go.Shelf T T.Fo
attribute [local go_sem] Oper.semAt_some

theorem room_of_none {F : Fence} (hd : F.depth = none) (k : Nat) : F.room k := fun d h => by rw [hd] at h; cases h
theorem roundIn_anyDepth {F : Fence} (hd : F.depth = none) {m m' : Nat} {P : Program} {l : Nat} {f : FuncId} {tmps : Array Value} {assign body : Code} {w : World} {R : Ending → World → Prop}
    (h : RoundIn F m P l f tmps assign body w R) : RoundIn F m' P l f tmps assign body w R := ⟨h.1, fun c cs _ => h.2 c cs (room_of_none hd _)⟩
theorem yieldAt_anyDepth {F : Fence} (hd : F.depth = none) {m : Nat} (m' : Nat) {P : Program} {l : Nat} {args : Array Value} {W : World} {R : Ending → World → Prop} (h : YieldAt F m P l args W R) : YieldAt F m' P l args W R := by
  obtain ⟨fn, tmps, assign, body, hy, hR⟩ := h
  exact ⟨fn, tmps, assign, body, hy, roundIn_anyDepth hd hR⟩

/-- A node that comes, with where its children lie in the world w0. -/
abbrev Al (n₀ : Nat) (w0 : World) : Type := { e : El // e.k.len ≤ e.cap ∧ Kids (Lt n₀) w0 e.A e.k }
def hks {n₀ : Nat} {w0 : World} (xs : List (Al n₀ w0)) : List (Hd × Fo) := xs.map fun x => (x.1.h, x.1.k)
theorem hks_app {n₀ : Nat} {w0 : World} (xs ys : List (Al n₀ w0)) : hks (xs ++ ys) = hks xs ++ hks ys := by simp [hks]
abbrev enc1 {n₀ : Nat} {w0 : World} (x : Al n₀ w0) : Array Value := #[nv x.1.h x.1.A x.1.k.len x.1.cap]

/-- What lies below n₀, and each block of cells that is not the caller's, lies as it lay. -/
structure KC (n₀ : Nat) (C : Nat → Prop) (A B : World) : Prop where
  size : A.heap.size ≤ B.heap.size
  low : ∀ b, b < n₀ → B.heap[b]? = A.heap[b]?
  cells : ∀ (b : Nat) (cs : Array Value) (t : TypeId) (fr : Nat × Nat), A.heap[b]? = some (.cells cs t fr) → ¬ C b → B.heap[b]? = A.heap[b]?
section
variable {n₀ : Nat} {C : Nat → Prop} {A B D : World}
theorem KC.refl (n₀ : Nat) (C : Nat → Prop) (A : World) : KC n₀ C A A := ⟨Nat.le_refl _, fun _ _ => rfl, fun _ _ _ _ _ _ => rfl⟩
theorem KC.trans (h : KC n₀ C A B) (k : KC n₀ C B D) : KC n₀ C A D :=
  ⟨Nat.le_trans h.size k.size, fun b hb => (k.low b hb).trans (h.low b hb), fun b cs t fr hc hn => (k.cells b cs t fr ((h.cells b cs t fr hc hn).trans hc) hn).trans (h.cells b cs t fr hc hn)⟩
theorem KC.alloc (h : KC n₀ C A B) (o : Obj) (hn : n₀ ≤ B.heap.size) : KC n₀ C A (B.alloc o) :=
  h.trans ⟨by simp, fun b hb => Below.heap_alloc B o b (by omega), fun b cs t fr hc _ => Below.heap_alloc B o b (Array.getElem?_eq_some_iff.1 hc).1⟩
theorem KC.below (h : Below A.heap.size A B) (hn : n₀ ≤ A.heap.size) : KC n₀ C A B :=
  ⟨h.size, fun b hb => h.block b (by omega), fun b cs t fr hc _ => h.block b (Array.getElem?_eq_some_iff.1 hc).1⟩
theorem KC.putObj (W : World) (l : Nat) (o o' : Obj) (hl : n₀ ≤ l) (ho : W.heap[l]? = some o) (hc : o.isCells = false) : KC n₀ C W (W.putObj l o') := by
  have hg := grownBy_putObj' W l o'
  refine ⟨hg.size, fun b hb => ?_, fun b cs t fr hcell _ => ?_⟩
  · by_cases hbs : b < W.heap.size
    · exact hg.block b hbs (fun e => by have := Option.some.inj e; omega)
    · have := (Array.getElem?_eq_some_iff.1 ho).1
      omega
  · refine hg.block b (Array.getElem?_eq_some_iff.1 hcell).1 (fun e => ?_)
    have e := Option.some.inj e
    subst e
    rw [hcell] at ho
    have := Option.some.inj ho
    subst this
    simp [Obj.isCells] at hc
end

/-- The boxes that visit reads: yield and itself. -/
def VBox (W : World) (l By Bv : Nat) : Prop :=
  W.heap[By]? = some (.cells #[.func (.yield l) #[] #[]] 28 (0, 0)) ∧ W.heap[Bv]? = some (.cells #[.func (.func 41) #[] #[.pointer (some ⟨By, 0, none⟩), .pointer (some ⟨Bv, 0, none⟩)]] 28 (0, 0))
theorem VBox.keep {W W' : World} {l By Bv n₀ : Nat} {C : Nat → Prop} (h : VBox W l By Bv) (k : KC n₀ C W W') (h1 : ¬ C By) (h2 : ¬ C Bv) : VBox W' l By Bv :=
  ⟨(k.cells _ _ _ _ h.1 h1).trans h.1, (k.cells _ _ _ _ h.2 h2).trans h.2⟩
theorem VBox.at_ {W : World} {l By Bv : Nat} (h : VBox W l By Bv) : W.cell? ⟨By, 0, none⟩ = some (.func (.yield l) #[] #[]) ∧ W.cell? ⟨Bv, 0, none⟩ = some (.func (.func 41) #[] #[.pointer (some ⟨By, 0, none⟩), .pointer (some ⟨Bv, 0, none⟩)]) ∧ By < W.heap.size ∧ Bv < W.heap.size :=
  ⟨by simp [World.cell?, h.1], by simp [World.cell?, h.2], (Array.getElem?_eq_some_iff.1 h.1).1, (Array.getElem?_eq_some_iff.1 h.2).1⟩

section
variable (F : Fence) (l n₀ N By Bv c0 : Nat) (C : Nat → Prop) (w0 : World) (J Jx : List (Al n₀ w0) → World → Prop)
/-- What visit leaves. -/
def Visits (pre : List (Al n₀ w0)) (L : List (Hd × Fo)) (W : World) (e : Ending) (W' : World) : Prop :=
  (e = .returned (.bool true) ∧ ∃ xs, hks xs = L ∧ J (pre ++ xs) W' ∧ KC n₀ C W W') ∨ (e = .returned (.bool false) ∧ ∃ xs, hks xs <+: L ∧ Jx (pre ++ xs) W')
/-- visit's contract at a tree. -/
def VisitP (h : Hd) (k : Fo) : Prop := ∀ (n : Nat) (A : Option Addr) (cap : Nat) (pre : List (Al n₀ w0)) (W : World), k.len ≤ cap → Kids (Lt n₀) w0 A k → k.cnt ≤ 1048576 → (∀ b, b < n₀ → W.heap[b]? = w0.heap[b]?) → n₀ ≤ W.heap.size → VBox W l By Bv → c0 ≤ W.heap.size → J pre W → pre.length + (1 + k.cnt) ≤ N →
    CallsIn F n Tryz.prog 41 #[nv h A k.len cap, .pointer (some ⟨By, 0, none⟩), .pointer (some ⟨Bv, 0, none⟩)] W (Visits n₀ C w0 J Jx pre (preT h k) W)
end

/-- What holds between two children. -/
structure VI (l n₀ By Bv : Nat) (C : Nat → Prop) (w0 W wr : World) : Prop where
  k : KC n₀ C W wr
  v : VBox wr l By Bv
  low : ∀ b, b < n₀ → wr.heap[b]? = w0.heap[b]?
  z : W.heap.size < wr.heap.size
theorem VI.step {l n₀ By Bv : Nat} {C : Nat → Prop} {w0 W wr W3 : World} (h : VI l n₀ By Bv C w0 W wr) (k : KC n₀ C wr W3) (h1 : ¬ C By) (h2 : ¬ C Bv) : VI l n₀ By Bv C w0 W W3 :=
  ⟨h.k.trans k, h.v.keep k h1 h2, fun b hb => (k.low b hb).trans (h.low b hb), by have := h.z; have := k.size; omega⟩

set_option maxRecDepth 100000 in
set_option maxHeartbeats 2000000 in
theorem visit_in (F : Fence) (hd : F.depth = none) (h41 : F.fn 41) (hro : F.round = none) (l n₀ N By Bv c0 : Nat) (C : Nat → Prop) (w0 : World) (J Jx : List (Al n₀ w0) → World → Prop) (hC : ∀ b, C b → b < c0) (hCy : ¬ C By) (hCv : ¬ C Bv)
    (hJ : AbidesFrom c0 J)
    (hY : ∀ m pre x W, J pre W → pre.length < N → YieldAt F m Tryz.prog l (enc1 x) W fun e W' => (e = .returned (.bool true) ∧ J (pre ++ [x]) W' ∧ KC n₀ C W W') ∨ (e = .returned (.bool false) ∧ Jx (pre ++ [x]) W')) (h : Hd) (k : Fo) :
    VisitP F l n₀ N By Bv c0 C w0 J Jx h k := by
  refine Fo.ind (P := VisitP F l n₀ N By Bv c0 C w0 J Jx) ?_ h k
  clear h k
  intro h k ih n A cap pre W hcap hk hcn hlow hn0 hvb hc0 hJ0 hN
  have hdd : ∀ k : Nat, (F.depth.isSome = true → 1 ≤ k) := fun k h => by rw [hd] at h; cases h
  have hja : ∀ (s : List (Al n₀ w0)) (V : World) (o : Obj), J s V → J s (V.alloc o) := fun s V o hs => hJ s V _ none hs (World.grownBy_alloc V o none) (fun r e => by cases e)
  obtain ⟨v1, v2, v3, v4⟩ := hvb.at_
  have hlen : k.len ≤ k.cnt := k.len_le_cnt
  have hkl : k.len ≤ 1048576 := by omega
  have hbx : (W.alloc (.cells (nc h A k.len cap) 26)).heap[W.heap.size]? = some (.cells (nc h A k.len cap) 26 (0, 0)) := heap_alloc_new W _
  have hK1 : KC n₀ C W (W.alloc (.cells (nc h A k.len cap) 26)) := (KC.refl n₀ C W).alloc _ hn0
  have hnC : ¬ C W.heap.size := fun h => by have := hC _ h; omega
  have hQ : ∀ W2, KC n₀ C (W.alloc (.cells (nc h A k.len cap) 26)) W2 → VI l n₀ By Bv C w0 W W2 ∧ W2.cell? ⟨W.heap.size, 4, none⟩ = some (.slice A k.len cap) := fun W2 hk2 => by
    have h1 := hK1.trans hk2
    have h2 := (hk2.cells _ _ _ _ hbx hnC).trans hbx
    exact ⟨⟨h1, hvb.keep h1 hCy hCv, fun b hb => (h1.low b hb).trans (hlow b hb), (Array.getElem?_eq_some_iff.1 h2).1⟩, by simp [World.cell?, h2]⟩
  obtain ⟨x, hxe, hy⟩ : ∃ x : Al n₀ w0, (x.1.h, x.1.k) = (h, k) ∧ YieldAt F (n - 1) Tryz.prog l #[nv h A k.len cap] (W.alloc (.cells (nc h A k.len cap) 26)) fun e W' => (e = .returned (.bool true) ∧ J (pre ++ [x]) W' ∧ VI l n₀ By Bv C w0 W W' ∧ W'.cell? ⟨W.heap.size, 4, none⟩ = some (.slice A k.len cap)) ∨ (e = .returned (.bool false) ∧ Jx (pre ++ [x]) W') :=
    ⟨⟨⟨h, k, A, cap⟩, hcap, hk⟩, rfl, YieldAt.mono (hY (n - 1) pre ⟨⟨h, k, A, cap⟩, hcap, hk⟩ (W.alloc (.cells (nc h A k.len cap) 26)) (hja _ _ _ hJ0) (by omega)) fun e W2 hh => hh.elim (fun ⟨he, hj, hk2⟩ => .inl ⟨he, hj, (hQ W2 hk2).1, (hQ W2 hk2).2⟩) .inr⟩
  obtain ⟨fn, tmps, assign, body, hyy, hR⟩ := hy
  have HI := Lib.hid ih
  have HR := Lib.hid hR
  have HKK := Lib.hid hk
  have HJA := Lib.hid hja
  have HC0 := Lib.hid hc0
  have HXE := Lib.hid hxe
  clear ih hR hk hja hlow hvb hJ0 hbx hK1 hnC hY hJ hxe hQ
  refine callsIn_of_wp Tryz.func41 rfl h41 ?_ hro
  simp only [Tryz.ntmps41, List.size_toArray, List.length_cons, List.length_nil, Nat.reduceAdd, Nat.reduceSub, Array.replicate_succ, Array.replicate_zero, List.push_toArray, List.append_toArray, List.nil_append, List.cons_append]
  gi_wp2_with ((try refine ⟨hdd _, ?_⟩); refine HR.out.mono ?_; rintro e W2 (⟨rfl, hJ2, HQ, b4⟩ | ⟨rfl, hx⟩))
  · have hx1 : hks [x] = [(h, k)] := by have := HXE.out; simp [hks, this]
    have HX1 := Lib.hid hx1
    have HR0 := Lib.hid (Rest.start HKK.out)
    have HJ2 := Lib.hid hJ2
    clear hx1 hJ2 b4 v1 v2
    gi_loopw [14] (fun ix wr => ∃ (i : Nat) (R : Fo) (xs : List (Al n₀ w0)), ix = .int .i64 (i : Int) ∧ Rest (Lt n₀) w0 A k i R ∧ R.All (VisitP F l n₀ N By Bv c0 C w0 J Jx) ∧ R.cnt ≤ k.cnt ∧ hks xs ++ R.pre = preT h k ∧ J (pre ++ xs) wr ∧ VI l n₀ By Bv C w0 W wr) (fun ix _ => k.len - (intOf ix).toNat)
    case atStart => exact ⟨0, k, [x], rfl, HR0.out, HI.out, Nat.le_refl _, by rw [HX1.out]; rfl, HJ2.out, HQ⟩
    case round =>
      obtain ⟨i, R, xs, rfl, hr, hP, hcR, hxs, hJx, hv⟩ := hrel
      have HV := Lib.hid hv
      have HXS := Lib.hid hxs
      have HJX := Lib.hid hJx
      have hxl : xs.length + R.cnt = 1 + k.cnt := by
        have := congrArg List.length hxs
        simp [hks, preT_len, pre_len] at this
        omega
      have hzz := hv.z
      cases R with
      | nil =>
        have hi := hr.stop
        subst hi
        clear hP hxs hJx hv hr
        gi_wp2
        go_ret
        exact .inl ⟨rfl, xs, by have := HXS.out; simpa [Fo.pre] using this, HJX.out, HV.out.k⟩
      | cons h' k' r =>
        obtain ⟨g, o, A', cap', rfl, h9, hkc, hk9, hrt, hi1, hg⟩ := hr.next
        obtain ⟨e0, e1, e2, e3, e4, e5, e6, e7, e8⟩ := h9.carry (hv.low g hg)
        obtain ⟨q1, q2, q3, q4⟩ := hv.v.at_
        obtain ⟨p1, p2⟩ := hP
        have HP2 := Lib.hid p2
        have HRT := Lib.hid hrt
        simp only [Fo.cnt] at hcR hxl
        have hg' : g < n₀ := hg
        have hgz : g < wr.heap.size := by omega
        have hK1 : KC n₀ C wr (wr.alloc (.cells (nc h' A' k'.len cap') 26)) := (KC.refl n₀ C wr).alloc _ (by omega)
        have hV1 := hv.step hK1 hCy hCv
        have HC := Lib.hid (fun m => (p1 m A' cap' (pre ++ xs) (wr.alloc (.cells (nc h' A' k'.len cap') 26)) hkc hk9 (by omega) hV1.low (by simp; omega) hV1.v (by simp; omega) (HJA.out _ _ _ hJx) (by rw [List.length_append]; omega)).mono (R' := fun e W3 =>
          (e = .returned (.bool true) ∧ Hid (∃ xs2, hks xs2 = preT h' k' ∧ J (pre ++ (xs ++ xs2)) W3 ∧ VI l n₀ By Bv C w0 W W3)) ∨ (e = .returned (.bool false) ∧ Hid (∃ xs2, hks xs2 <+: preT h' k' ∧ Jx (pre ++ (xs ++ xs2)) W3))) (fun e W3 hh => by
            rcases hh with ⟨he, xs2, h1, h2, h3⟩ | ⟨he, xs2, h1, h2⟩
            · exact .inl ⟨he, xs2, h1, by rw [← List.append_assoc]; exact h2, hV1.step h3 hCy hCv⟩
            · exact .inr ⟨he, xs2, h1, by rw [← List.append_assoc]; exact h2⟩))
        have hj : (i : Int) < (k.len : Int) := by omega
        clear h9 hk9 hrt p1 p2 hxs hJx hv hr hK1 hV1
        gi_wp2_with ((try refine ⟨hdd _, ?_⟩); gi_at_call 41; refine (HC.out _).mono ?_; rintro e W3 (⟨rfl, H3⟩ | ⟨rfl, H3⟩))
        · clear e0 e1 e2 e3 e4 e5 e6 e7 e8 q1 q2 q3 q4
          obtain ⟨xs2, h1, h2, h3⟩ := H3.out
          have H1 := Lib.hid h1
          have H2 := Lib.hid h2
          have H4 := Lib.hid h3
          clear h1 h2 h3 H3
          go_roundw
          case rel => exact ⟨i + 1, r, xs ++ xs2, by go_num, HRT.out, HP2.out, by omega, by rw [hks_app, H1.out]; have := HXS.out; simpa [Fo.pre, preT, List.append_assoc] using this, H2.out, H4.out⟩
          case measure => simp [intOf]; omega
        · go_ret
          obtain ⟨xs2, h1, h2⟩ := H3.out
          refine .inr ⟨rfl, xs ++ xs2, ?_, h2⟩
          rw [hks_app]
          obtain ⟨t, ht⟩ := h1
          refine ⟨t ++ r.pre, ?_⟩
          have := HXS.out
          rw [← this]
          simp only [Fo.pre, List.append_assoc]
          rw [← List.append_assoc (hks xs2), ht]
          simp [preT]
  · go_ret
    exact .inr ⟨rfl, [x], ⟨k.pre, by have := HXE.out; simp [hks, this, preT]⟩, hx⟩
end Go.Proofs.YticbcnhbpbaocaaGreatDoor

namespace Go.Proofs.YticbcnhbpbaocaaGreatDoor
open Go.RowKit Go.Shelf T T.Fo
attribute [local go_sem] Oper.semAt_some

set_option maxRecDepth 100000 in
set_option maxHeartbeats 2000000 in
theorem walk1_in (F : Fence) (hd : F.depth = none) (n : Nat) (h40 : F.fn 40) (h41 : F.fn 41) (hro : F.round = none) (l n₀ Bn : Nat) (C : Nat → Prop) (w0 : World) (h : Hd) (k : Fo) (A : Option Addr) (cap : Nat) (J Jx : List (Al n₀ w0) → World → Prop)
    (W : World) (hC : ∀ b, C b → b < W.heap.size) (hJ : AbidesFrom W.heap.size J)
    (hY : ∀ pre x W, J pre W → pre.length < 1 + k.cnt → YieldAt F (n - 1) Tryz.prog l (enc1 x) W fun e W' => (e = .returned (.bool true) ∧ J (pre ++ [x]) W' ∧ KC n₀ C W W') ∨ (e = .returned (.bool false) ∧ Jx (pre ++ [x]) W'))
    (hcap : k.len ≤ cap) (hk : Kids (Lt n₀) w0 A k) (hcn : k.cnt ≤ 1048576) (hlow : ∀ b, b < n₀ → W.heap[b]? = w0.heap[b]?) (hn : n₀ ≤ W.heap.size) (hbn : W.heap[Bn]? = some (.cells (nc h A k.len cap) 26 (0, 0))) (h0 : J [] W) :
    CallsIn F n Tryz.prog 40 #[.func (.yield l) #[] #[], .pointer (some ⟨Bn, 0, none⟩)] W fun e W' => (∃ v, e = .returned v) ∧
      ((∃ ys : List (Al n₀ w0), hks ys = preT h k ∧ J ys W') ∨ (∃ pre : List (Al n₀ w0), hks pre <+: preT h k ∧ Jx pre W')) := by
  have hdd : ∀ k : Nat, (F.depth.isSome = true → 1 ≤ k) := fun k h => by rw [hd] at h; cases h
  have hja : ∀ (s : List (Al n₀ w0)) (V : World) (o : Obj), J s V → J s (V.alloc o) := fun s V o hs => hJ s V _ none hs (World.grownBy_alloc V o none) (fun r e => by cases e)
  have a0 : W.cell? ⟨Bn, 0, none⟩ = some (.int .i64 h.kind) := by simp [World.cell?, hbn]
  have a1 : W.cell? ⟨Bn, 1, none⟩ = some (.string h.text) := by simp [World.cell?, hbn]
  have a2 : W.cell? ⟨Bn, 2, none⟩ = some (.int .i64 h.num) := by simp [World.cell?, hbn]
  have a3 : W.cell? ⟨Bn, 3, none⟩ = some (.int .i64 h.pos) := by simp [World.cell?, hbn]
  have a4 : W.cell? ⟨Bn, 4, none⟩ = some (.slice A k.len cap) := by simp [World.cell?, hbn]
  have a5 : W.cell? ⟨Bn, 5, none⟩ = some (.int .i64 h.tk) := by simp [World.cell?, hbn]
  have a6 : W.cell? ⟨Bn, 6, none⟩ = some (.string h.tn) := by simp [World.cell?, hbn]
  have a7 : W.cell? ⟨Bn, 7, none⟩ = some (.int .i64 h.ref) := by simp [World.cell?, hbn]
  have a8 : W.cell? ⟨Bn, 8, none⟩ = some (.int .i64 h.up) := by simp [World.cell?, hbn]
  have hbz : Bn < W.heap.size := (Array.getElem?_eq_some_iff.1 hbn).1
  obtain ⟨V, hV⟩ : ∃ V, V = (W.alloc (.cells #[.func (.yield l) #[] #[]] 28)).alloc (.cells #[.func (.func 41) #[] #[.pointer (some ⟨W.heap.size, 0, none⟩), .pointer (some ⟨W.heap.size + 1, 0, none⟩)]] 28) := ⟨_, rfl⟩
  have hVB : VBox V l W.heap.size (W.heap.size + 1) := by
    have z1 : (W.alloc (.cells #[.func (.yield l) #[] #[]] 28)).heap.size = W.heap.size + 1 := by simp
    subst hV
    refine ⟨?_, ?_⟩
    · rw [Below.heap_alloc _ _ _ (by simp)]; exact heap_alloc_new _ _
    · have := heap_alloc_new (W.alloc (.cells #[.func (.yield l) #[] #[]] 28)) (.cells #[.func (.func 41) #[] #[.pointer (some ⟨W.heap.size, 0, none⟩), .pointer (some ⟨W.heap.size + 1, 0, none⟩)]] 28)
      rw [z1] at this
      exact this
  have hp := visit_in F hd h41 hro l n₀ (1 + k.cnt) W.heap.size (W.heap.size + 1) W.heap.size C w0 J Jx hC (fun h => by have := hC _ h; omega) (fun h => by have := hC _ h; omega) hJ
    (fun m pre x W hj hl => yieldAt_anyDepth hd m (hY pre x W hj hl)) h k (n - 1) A cap [] V hcap hk hcn (fun b hb => by subst hV; rw [Below.heap_alloc _ _ _ (by simp; omega), Below.heap_alloc _ _ _ (by omega)]; exact hlow b hb) (by subst hV; simp; omega) hVB (by subst hV; simp; omega) (by subst hV; exact hja _ _ _ (hja _ _ _ h0)) (by simp)
  subst hV
  have HP := Lib.hid hp
  clear hp hVB hY hja hJ hlow hk hbn h0 hC
  refine callsIn_of_wp Tryz.func40 rfl h40 ?_ hro
  simp only [Tryz.ntmps40, List.size_toArray, List.length_cons, List.length_nil, Nat.reduceAdd, Nat.reduceSub, Array.replicate_succ, Array.replicate_zero, List.push_toArray, List.append_toArray, List.nil_append, List.cons_append]
  gi_wp2_with ((try refine ⟨hdd _, ?_⟩); gi_at_call 41; refine HP.out.mono ?_; rintro e W1 (⟨rfl, H1⟩ | ⟨rfl, H1⟩))
  · go_end0
    obtain ⟨xs, h1, h2, _⟩ := H1
    exact ⟨⟨_, rfl⟩, .inl ⟨xs, h1, by simpa using h2⟩⟩
  · go_end0
    obtain ⟨xs, h1, h2⟩ := H1
    exact ⟨⟨_, rfl⟩, .inr ⟨xs, h1, by simpa using h2⟩⟩

/-- Walk hands back an iterator over the nodes in preorder. -/
theorem walk_stops (F : Fence) (hd : F.depth = none) (n : Nat) (h40 : F.fn 40) (h41 : F.fn 41) (hro : F.round = none) (n₀ Bn : Nat) (C : Nat → Prop) (w0 : World) (h : Hd) (k : Fo) (A : Option Addr) (cap : Nat) (w : World) (hC : ∀ b, C b → b < w.heap.size) (hCn : ¬ C Bn)
    (hcap : k.len ≤ cap) (hk : Kids (Lt n₀) w0 A k) (hcn : k.cnt ≤ 1048576) (hlow : ∀ b, b < n₀ → w.heap[b]? = w0.heap[b]?) (hn : n₀ ≤ w.heap.size) (hbn : w.heap[Bn]? = some (.cells (nc h A k.len cap) 26 (0, 0))) :
    SeqStopsK F n Tryz.prog 40 #[.pointer (some ⟨Bn, 0, none⟩)] (enc1 (n₀ := n₀) (w0 := w0)) (KC n₀ C) (fun ys => hks ys = preT h k) (fun pre => hks pre <+: preT h k) (1 + k.cnt) w := fun l J Jx W hW hJ _ hY h0 =>
  walk1_in F hd n h40 h41 hro l n₀ Bn C w0 h k A cap J Jx W (fun b hb => Nat.lt_of_lt_of_le (hC b hb) hW.size) hJ hY hcap hk hcn (fun b hb => (hW.block b (by omega)).trans (hlow b hb)) (by have := hW.size; omega) ((hW.block Bn (Array.getElem?_eq_some_iff.1 hbn).1).trans hbn) h0

set_option maxRecDepth 100000 in
theorem pre27_in (F : Fence) (n : Nat) (h27 : F.fn 27) (hro : F.round = none) (h : Hd) (A : Option Addr) (m cap : Nat) (w : World) :
    CallsIn F n Tryz.prog 27 #[nv h A m cap] w fun e w' => e = .returned (.func (.func 40) #[] #[.pointer (some ⟨w.heap.size, 0, none⟩)]) ∧ w' = w.alloc (.cells (nc h A m cap) 26) := by
  refine callsIn_of_wp Tryz.func27 rfl h27 ?_ hro
  simp only [Tryz.ntmps27, List.size_toArray, List.length_cons, List.length_nil, Nat.reduceAdd, Nat.reduceSub, Array.replicate_succ, Array.replicate_zero, List.push_toArray, List.append_toArray, List.nil_append, List.cons_append]
  gi_wp2
  go_ret
  exact ⟨rfl, rfl⟩

theorem KC.set_ {n₀ : Nat} {C : Nat → Prop} {A B : World} (h : KC n₀ C A B) {p : Addr} (hp : C p.block) (hn : n₀ ≤ p.block) (u : Value) : KC n₀ C A (B.setCell p u) :=
  h.trans ⟨by simp [World.setCell], fun b hb => Below.heap_setCell B p u b (by omega), fun b cs t fr hc hnc => Below.heap_setCell B p u b (fun e => hnc (by rw [e]; exact hp))⟩

set_option maxRecDepth 100000 in
set_option maxHeartbeats 2000000 in
theorem scount_in (F : Fence) (hd : F.depth = none) (n : Nat) (h15 : F.fn 15) (h27 : F.fn 27) (h40 : F.fn 40) (h41 : F.fn 41) (hro : F.round = none) (hn : 3 ≤ n) (h : Hd) (k : Fo) (A : Option Addr) (cap : Nat) (w : World) (hcap : k.len ≤ cap) (hk : Kids (Lt w.heap.size) w A k) (hcn : k.cnt ≤ 1048576) :
    CallsIn F n Tryz.prog 15 #[nv h A k.len cap] w fun e W' => e = .returned (.int .i64 ((1 + k.cnt : Nat) : Int)) ∧ Below w.heap.size w W' := by
  have h1 : 1 ≤ n := by omega
  refine callsIn_of_wp_marks Tryz.func15 rfl h15 ?_ hro
  simp only [Tryz.ntmps15, List.size_toArray, List.length_cons, List.length_nil, Nat.reduceAdd, Nat.reduceSub, Array.replicate_succ, Array.replicate_zero, List.push_toArray, List.append_toArray, List.nil_append, List.cons_append]
  gi_wp2_with (gi_at_call 27; refine (pre27_in F (n - 1) h27 hro _ _ _ _ _).mono ?_; rintro e w' ⟨rfl, rfl⟩)
  have hs0 := heap_alloc_new (w.alloc (.cells (nc h A k.len cap) 26)) (.cells #[.int .i64 0] 3)
  have z1 : (w.alloc (.cells (nc h A k.len cap) 26)).heap.size = w.heap.size + 1 := by simp
  have z2 : ((w.alloc (.cells (nc h A k.len cap) 26)).alloc (.cells #[.int .i64 0] 3)).heap.size = w.heap.size + 1 + 1 := by simp
  rw [z1] at hs0
  have hbn := heap_alloc_new ((w.alloc (.cells (nc h A k.len cap) 26)).alloc (.cells #[.int .i64 0] 3)) (.cells (nc h A k.len cap) 26)
  rw [z2] at hbn
  have hs1 : (((w.alloc (.cells (nc h A k.len cap) 26)).alloc (.cells #[.int .i64 0] 3)).alloc (.cells (nc h A k.len cap) 26)).heap[w.heap.size + 1]? = some (.cells #[.int .i64 0] 3 (0, 0)) := by
    rw [Below.heap_alloc _ _ _ (by simp)]; exact hs0
  have hB0 : Below w.heap.size w (((w.alloc (.cells (nc h A k.len cap) 26)).alloc (.cells #[.int .i64 0] 3)).alloc (.cells (nc h A k.len cap) 26)) := (((Below.refl _ w).alloc (Nat.le_refl _) _).alloc (by simp) _).alloc (by simp; omega) _
  have hz3 : (((w.alloc (.cells (nc h A k.len cap) 26)).alloc (.cells #[.int .i64 0] 3)).alloc (.cells (nc h A k.len cap) 26)).heap.size = w.heap.size + 1 + 1 + 1 := by simp
  have hcell : (((w.alloc (.cells (nc h A k.len cap) 26)).alloc (.cells #[.int .i64 0] 3)).alloc (.cells (nc h A k.len cap) 26)).cell? ⟨w.heap.size + 1, 0, none⟩ = some (.int .i64 (([] : List (Al w.heap.size w)).length : Int)) := by
    simp only [World.cell?]; rw [hs1]; rfl
  have hfree : (((w.alloc (.cells (nc h A k.len cap) 26)).alloc (.cells #[.int .i64 0] 3)).alloc (.cells (nc h A k.len cap) 26)).frozen? ⟨w.heap.size + 1, 0, none⟩ = false := by
    simp only [World.frozen?]; rw [hs1]; rfl
  refine wpIn_rangeFunc_ownF hro h1 (gf := 40) (lb := #[.pointer (some ⟨w.heap.size + 1 + 1, 0, none⟩)]) rfl h40 (enters_of Tryz.func40 (by kernel_rfl) rfl)
    (walk_stops F hd (n - 1) h40 h41 hro w.heap.size (w.heap.size + 1 + 1) (fun b => b = w.heap.size + 1) w h k A cap _ (fun b hb => by rw [hz3]; omega) (by omega) hcap hk hcn (fun b hb => hB0.block b hb) (by rw [hz3]; omega) hbn) (fun h k => h.trans k) (fun W l o o' hl ho hc _ => KC.putObj W l o o' (by rw [hz3] at hl; omega) ho hc) (Below.refl _ _) (fun _ => rfl)
    (fun pre W => (W.cell? ⟨w.heap.size + 1, 0, none⟩ = some (.int .i64 (pre.length : Int)) ∧ W.frozen? ⟨w.heap.size + 1, 0, none⟩ = false) ∧ Below w.heap.size w W)
    (fun _ _ _ => False)
    (OwnFrom.and (Own.from (fun s A B row hs hg hr => ⟨cell_kept hs.1 hg hr, (frozen_kept hs.1 hg hr).trans hs.2⟩) _) (ownFrom_below (Nat.le_refl _) (by simp; omega)))
    (fun _ _ _ _ _ hs _ _ => hs)
    ⟨⟨hcell, hfree⟩, hB0⟩
    (fun x => { tmps := #[nv h A k.len cap, .pointer (some ⟨w.heap.size, 0, none⟩), .int .i64 0, .pointer (some ⟨w.heap.size + 1, 0, none⟩), nv h A k.len cap, .func (.func 40) #[] #[.pointer (some ⟨w.heap.size + 1 + 1, 0, none⟩)], nv x.1.h x.1.A x.1.k.len x.1.cap, undef, undef, undef], defers := [] }) ?assign ?body ?done ?stop
  case assign =>
    intro l x W K hK
    dsimp only [enc1]
    gi_wp2
    simpa using hK
  case body =>
    rintro l pre x W ⟨⟨hc, hf⟩, hB⟩ hlt
    have hb9 : pre.length + 1 ≤ 1048577 := by omega
    clear hs0 z1 z2 hbn hs1 hB0 hz3 hcell hfree
    gi_wp2
    exact ⟨KeepsOthers.setCell _ _ _, (KC.refl w.heap.size (fun b => b = w.heap.size + 1) W).set_ (p := ⟨w.heap.size + 1, 0, none⟩) rfl (by show w.heap.size ≤ w.heap.size + 1; omega) _, ⟨by rw [World.cell?_setCell_same' _ _ _ (by rw [hc]; rfl)]; simp, by rw [World.frozen?_setCell]; exact hf⟩, hB.setCell (p := ⟨w.heap.size + 1, 0, none⟩) (by simp) _⟩
  case done =>
    rintro D ys W hD hys ⟨⟨hc, _⟩, hB⟩ hK
    have hyl : ys.length = 1 + k.cnt := by have := congrArg List.length hys; simpa [hks, preT_len] using this
    rw [hyl] at hc
    clear hs0 z1 z2 hbn hs1 hB0 hcell hfree hys hyl
    gi_wp2
    refine ⟨by simp, .inl ⟨_, _, rfl, run_takeDeferred hK, ?_⟩⟩
    exact ⟨_, results_tmp rfl _ _ _, rfl, hB.trans (belowK_b (w := w) (Nat.le_refl _) W D _ _ (by rw [hz3] at hD; omega) hK rfl rfl)⟩
  case stop =>
    rintro D c pre W _ _ h _
    exact h.elim
theorem scount_any (h : Hd) (k : Fo) (A : Option Addr) (cap : Nat) (w : World) (m : Nat) (hcap : k.len ≤ cap) (hk : Kids (Lt w.heap.size) w A k) (hm : k.cnt + 1 = m) (hcn : k.cnt ≤ 1048576) :
    Calls Tryz.prog 15 #[nv h A k.len cap] w fun e W' => e = .returned (.int .i64 (m : Int)) ∧ Below w.heap.size w W' := by
  have := (callsIn_wide (n := 3)).1 (scount_in Fence.wide rfl 3 trivial trivial trivial trivial rfl (by omega) h k A cap w hcap hk hcn)
  rw [show 1 + k.cnt = m by omega] at this
  exact this
end Go.Proofs.YticbcnhbpbaocaaGreatDoor
