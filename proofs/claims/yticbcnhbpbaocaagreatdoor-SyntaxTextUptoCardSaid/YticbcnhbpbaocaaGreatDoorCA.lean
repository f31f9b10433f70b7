/-
  The walk of the specification's Count.
  A row of nodes that a call builds: what a round adds.
-/
import Derived.Test.YticbcnhbpbaocaaGreatDoorTB
import Derived.WalkKit
import Derived.WalkSpells
import Derived.WalkLawsBesides
import Derived.Deep.QuietTactic
import Derived.BigQuiet
import Derived.Lib.Hide
import Derived.Outline
import Derived.Deep.RegionLaw
import Derived.Deep.AppendLies

set_option linter.all false
namespace Go.Proofs.YticbcnhbpbaocaaGreatDoor
open Go.RowKit T T.Fo

theorem ret_bool {a b : Bool} (h : a = b) : Ending.returned (.bool a) = .returned (.bool b) := by rw [h]
theorem ret_int {k : IntKind} {a b : Int} (h : a = b) : Ending.returned (.int k a) = .returned (.int k b) := by rw [h]
theorem below_draws (B : Nat) (w : World) (n : Nat) : Below B w (w.drewN n) := ⟨rfl, rfl, rfl, Nat.le_refl _, fun _ _ => rfl⟩

/-- What of the children is still to come at place i. -/
def Rest (S : Nat → Prop) (w : World) (A : Option Addr) (F : Fo) (i : Nat) (R : Fo) : Prop :=
  i + R.len = F.len ∧ (R = .nil ∨ ∃ g o, A = some ⟨g, o, none⟩ ∧ LiesF S w R g (o + i * 9))
theorem Rest.start {S : Nat → Prop} {w : World} {A : Option Addr} {F : Fo} (h : Kids S w A F) : Rest S w A F 0 F := by
  refine ⟨by omega, ?_⟩
  rcases h with h | ⟨g, o, hA, h⟩
  · exact .inl h
  · exact .inr ⟨g, o, hA, by simpa using h⟩
theorem Rest.carry {S S' : Nat → Prop} {w w' : World} {A : Option Addr} {F R : Fo} {i : Nat} (h : Rest S w A F i R) (H : ∀ b, S b → S' b ∧ w'.heap[b]? = w.heap[b]?) : Rest S' w' A F i R := by
  refine ⟨h.1, ?_⟩
  rcases h.2 with h | ⟨g, o, hA, h⟩
  · exact .inl h
  · exact .inr ⟨g, o, hA, h.carry H⟩
theorem Rest.below {B B' : Nat} {w w' : World} {A : Option Addr} {F R : Fo} {i : Nat} (h : Rest (Lt B) w A F i R) (hb : Below B' w w') (hB : B ≤ B') : Rest (Lt B) w' A F i R :=
  h.carry fun b hS => ⟨hS, hb.block b (Nat.lt_of_lt_of_le hS hB)⟩
/-- The next child: its cells, its own children; what is behind it. -/
theorem Rest.next {S : Nat → Prop} {w : World} {A : Option Addr} {F k r : Fo} {i : Nat} {h : Hd} (H : Rest S w A F i (.cons h k r)) :
    ∃ g o A' cap', A = some ⟨g, o, none⟩ ∧ At9 w g (o + i * 9) h A' k.len cap' ∧ k.len ≤ cap' ∧ Kids S w A' k ∧ Rest S w A F (i + 1) r ∧ i < F.len ∧ S g := by
  obtain ⟨h1, h2 | ⟨g, o, hA, A', cap', hS, hc, h9, hk, hr⟩⟩ := H
  · cases h2
  · refine ⟨g, o, A', cap', hA, h9, hc, hk, ⟨by simp only [Fo.len] at h1; omega, .inr ⟨g, o, hA, ?_⟩⟩, by simp only [Fo.len] at h1; omega, hS⟩
    rw [show o + (i + 1) * 9 = o + i * 9 + 9 by omega]
    exact hr
theorem Rest.tail {S : Nat → Prop} {w : World} {A : Option Addr} {F k r : Fo} {i : Nat} {h : Hd} (H : Rest S w A F i (.cons h k r)) : Rest S w A F (i + 1) r := by
  obtain ⟨_, _, _, _, _, _, _, _, h, _⟩ := H.next
  exact h
theorem Rest.stop {S : Nat → Prop} {w : World} {A : Option Addr} {F : Fo} {i : Nat} (H : Rest S w A F i .nil) : i = F.len := by have := H.1; simp only [Fo.len] at this; omega

theorem Kids.drew {B : Nat} {w : World} {A : Option Addr} {k : Fo} (h : Kids (Lt B) w A k) (hB : B ≤ w.heap.size) : Kids (Lt w.drew.heap.size) w.drew A k :=
  h.carry fun _ hb => ⟨Nat.lt_of_lt_of_le hb hB, rfl⟩
theorem below_drew {B : Nat} {w w' : World} (h : Below B w.drew w') : Below B w w' := ⟨h.os, h.tape, h.output, h.size, h.block⟩

/-- The contract of a function that takes a tree. -/
def CountP (h : Hd) (F : Fo) : Prop := ∀ (A : Option Addr) (cap : Nat) (w : World) (m : Nat), Kids (Lt w.heap.size) w A F → F.cnt + 1 = m → m ≤ maxLen →
    Calls Tryz.prog 16 #[nv h A F.len cap] w fun e w' => e = .returned (.int .i64 (m : Int)) ∧ Below w.heap.size w w'

set_option maxRecDepth 100000 in
set_option maxHeartbeats 1000000 in
theorem count_any (h : Hd) (F : Fo) : CountP h F := by
  refine Fo.ind (P := CountP) ?_ h F
  clear h F
  intro h F ih A cap w m hk hm hml
  have HI := Lib.hid ih
  have HM := Lib.hid hm
  have HR := Lib.hid (Rest.start hk)
  have hlen : F.len ≤ F.cnt := F.len_le_cnt
  unfold maxLen at hml
  have hfl : F.len ≤ 9223372036854775807 := by omega
  clear ih hm hk
  go_enter Tryz.func16, Tryz.ntmps16
  go_wp2
  go_loopw [3, 4] (fun kx ix wr => ∃ (a i : Nat) (R : Fo), kx = .int .i64 (a : Int) ∧ ix = .int .i64 (i : Int) ∧ a + R.cnt = F.cnt + 1 ∧ Rest (Lt w.heap.size) wr A F i R ∧ R.All CountP ∧ Below w.heap.size w wr ∧ w.heap.size < wr.heap.size ∧ wr.cell? ⟨w.heap.size, 4, none⟩ = some (.slice A F.len cap)) (fun _ ix _ => F.len - (intOf ix).toNat)
  case atStart => exact ⟨1, 0, F, rfl, rfl, by omega, HR.out.below ((Below.refl w.heap.size w).alloc (Nat.le_refl _) _) (Nat.le_refl _), HI.out, (Below.refl _ _).alloc (Nat.le_refl _) _, by simp, by simp⟩
  case round =>
    obtain ⟨a, i, R, rfl, rfl, ha, hr, hP, hb, hz, hc⟩ := hrel
    have HB := Lib.hid hb
    cases R with
    | nil =>
      have hi := hr.stop
      simp only [Fo.cnt] at ha
      subst hi
      have HA := Lib.hid ha
      clear hr hP hb HR ha
      go_wp2
      go_ret
      exact ⟨ret_int (by have := HA.out; have := HM.out; omega), HB.out⟩
    | cons h' k' r =>
      obtain ⟨g, o, A', cap', rfl, ⟨c0, c1, c2, c3, c4, c5, c6, c7, c8⟩, hkc, hk', hr', hi, hg⟩ := hr.next
      have HRR := Lib.hid hr'
      have HK := Lib.hid hk'
      simp only [Fo.cnt] at ha
      obtain ⟨p1, p2⟩ := hP
      have HP1 := Lib.hid p1
      have HP2 := Lib.hid p2
      have hle : a + k'.cnt + 1 ≤ 9223372036854775807 := by have := HM.out; omega
      obtain ⟨q, hq⟩ : ∃ q, k'.cnt + 1 = q := ⟨_, rfl⟩
      have HQ := Lib.hid hq
      have hqb : a + q ≤ 9223372036854775807 := by omega
      have HA := Lib.hid ha
      clear hr hr' hk' p1 p2 hb HR ha hq
      have hi1 : (i : Int) < (F.len : Int) := by omega
      go_wp2_with fail
      refine (HP1.out A' cap' _ q (HK.out.mono (by omega)) HQ.out (by unfold maxLen; have := HQ.out; omega)).mono ?_
      rintro e w2 ⟨rfl, hb2⟩
      have HB2 := Lib.hid hb2
      have hc2 : w2.cell? ⟨w.heap.size, 4, none⟩ = some (.slice (some ⟨g, o, none⟩) F.len cap) := (hb2.cell (p := ⟨w.heap.size, 4, none⟩) hz).trans hc
      have HC2 := Lib.hid hc2
      have hz2 := hb2.size
      clear hb2 hc2 hc c0 c1 c2 c3 c4 c5 c6 c7 c8
      go_wp2
      go_roundw
      case rel => exact ⟨a + q, i + 1, r, by go_num, by go_num, by have := HQ.out; have := HA.out; omega, HRR.out.below HB2.out (by omega), HP2.out, HB.out.trans (HB2.out.mono (by omega)), by omega, HC2.out⟩
      case measure => simp [intOf]; omega
end Go.Proofs.YticbcnhbpbaocaaGreatDoor

namespace Go.Proofs.YticbcnhbpbaocaaGreatDoor
open Go.RowKit T T.Fo

theorem info26 : (Tryz.prog.info? 26).map (fun i => (i.zero, i.size, i.bytes)) = some (some (.agg #[.int .i64 0, .string ⟨#[]⟩, .int .i64 0, .int .i64 0, .slice none 0 0, .int .i64 0, .string ⟨#[]⟩, .int .i64 0, .int .i64 0]), 9, 104) := by kernel_rfl

/-- A node's cells as an array. -/
abbrev nc (h : Hd) (A : Option Addr) (n cap : Nat) : Array Value :=
  #[.int .i64 h.kind, .string h.text, .int .i64 h.num, .int .i64 h.pos, .slice A n cap, .int .i64 h.tk, .string h.tn, .int .i64 h.ref, .int .i64 h.up]
abbrev nc0 : Array Value := #[.int .i64 0, .string ⟨#[]⟩, .int .i64 0, .int .i64 0, .slice none 0 0, .int .i64 0, .string ⟨#[]⟩, .int .i64 0, .int .i64 0]

/-- From block a on, below block b. -/
abbrev Rng (a b : Nat) : Nat → Prop := fun x => a ≤ x ∧ x < b

theorem Kids.heap {S : Nat → Prop} {w w' : World} {A : Option Addr} {k : Fo} (h : Kids S w A k) (e : w'.heap = w.heap) : Kids S w' A k := h.carry fun b hb => ⟨hb, by rw [e]⟩
/-- Behind an allocation, whatever has been drawn. -/
theorem Kids.at_ {B : Nat} {wr W : World} {A : Option Addr} {k : Fo} {o : Obj} (h : Kids (Lt B) wr A k) (hB : B ≤ wr.heap.size) (e : W.heap = (wr.alloc o).heap) : Kids (Lt W.heap.size) W A k :=
  h.carry fun b hb => ⟨by have h1 : W.heap.size = (wr.alloc o).heap.size := by rw [e]
                          have h2 : b < B := hb
                          simp at h1
                          show b < _
                          omega, by rw [e]; exact Below.heap_alloc wr o b (Nat.lt_of_lt_of_le hb hB)⟩

/-- What a call has built so far: a row of its own, the children of its nodes in blocks of its own. -/
structure Bld (w : World) (B : Nat) (A : Option Addr) (cap : Nat) (E : List El) : Prop where
  own : w.ownsRow B 26 9 (.slice A E.length cap) E.length (ecells E)
  els : Els (fun b => Rng B w.heap.size b ∧ (Value.slice A E.length cap).ownBlock ≠ some b) w E
theorem Bld.nil (w : World) (B : Nat) : Bld w B none 0 [] := ⟨World.ownsRow_nil _ _ _ _, fun e he => by cases he⟩
theorem Bld.lt {w : World} {B cap g : Nat} {A : Option Addr} {E : List El} (h : Bld w B A cap E) (hg : (Value.slice A E.length cap).ownBlock = some g) : B ≤ g ∧ g < w.heap.size := h.own.lt g hg
theorem Bld.below {w w' : World} {B cap : Nat} {A : Option Addr} {E : List El} (h : Bld w B A cap E) (hb : Below w.heap.size w w') : Bld w' B A cap E := by
  refine ⟨h.own.kept (row := none) ⟨hb.os, hb.tape, hb.output, hb.size, fun k hk _ => hb.block k hk⟩ (by cases hv : (Value.slice A E.length cap).ownBlock <;> simp), h.els.carry fun b hS => ⟨⟨⟨hS.1.1, Nat.lt_of_lt_of_le hS.1.2 hb.size⟩, hS.2⟩, hb.block b hS.1.2⟩⟩
theorem Bld.heap {w w' : World} {B cap : Nat} {A : Option Addr} {E : List El} (h : Bld w B A cap E) (e : w'.heap = w.heap) : Bld w' B A cap E := by
  refine ⟨?_, h.els.carry fun b hS => ⟨by rw [e]; exact hS, by rw [e]⟩⟩
  have := h.own
  unfold World.ownsRow at this ⊢
  rw [e]; exact this
/-- A store into a block that is below the row and its elements. -/
theorem Bld.set_ {w : World} {B cap : Nat} {A : Option Addr} {E : List El} (h : Bld w B A cap E) {p : Addr} (hp : p.block < B) (u : Value) : Bld (w.setCell p u) B A cap E := by
  have hsz : (w.setCell p u).heap.size = w.heap.size := by simp [World.setCell]
  have hblk : ∀ b, B ≤ b → (w.setCell p u).heap[b]? = w.heap[b]? := fun b hb => Below.heap_setCell w p u b (by omega)
  refine ⟨?_, h.els.carry fun b hS => ⟨by rw [hsz]; exact hS, hblk b hS.1.1⟩⟩
  obtain ⟨h1, h2⟩ := h.own
  refine ⟨h1, ?_⟩
  rcases h2 with h2 | ⟨g, c, cur, hv, hb, hg, r⟩
  · exact .inl h2
  · exact .inr ⟨g, c, cur, hv, hb, (hblk g hb).trans hg, r⟩

/-- A new element: its children are in blocks of the call's own. -/
theorem Bld.push {w1 W w4 : World} {B cap g cap' H : Nat} {A : Option Addr} {E : List El} {e : El} {o : Obj} (h : Bld w1 B A cap E) (hc : e.k.len ≤ e.cap)
    (hd : Kids (fun b => Rng B w1.heap.size b ∧ (Value.slice A E.length cap).ownBlock ≠ some b) w1 e.A e.k)
    (hW : W.heap = (w1.alloc o).heap) (hH : H = w1.heap.size + 1)
    (hown : w4.ownsRow B 26 9 (.slice (some ⟨g, 0, none⟩) (E.length + 1) cap') (E.length + 1) (ecells E ++ e.cells)) (hgr : W.grownBy w4 (Value.slice A E.length cap).ownBlock)
    (hat : (Value.slice A E.length cap).ownBlock = some g ∨ g = H) : Bld w4 B (some ⟨g, 0, none⟩) cap' (E ++ [e]) := by
  have hl : (E ++ [e]).length = E.length + 1 := by simp
  have hWs : W.heap.size = w1.heap.size + 1 := by rw [hW]; simp
  have key : ∀ b, (Rng B w1.heap.size b ∧ (Value.slice A E.length cap).ownBlock ≠ some b) → ((Rng B w4.heap.size b ∧ (Value.slice (some ⟨g, 0, none⟩) (E ++ [e]).length cap').ownBlock ≠ some b) ∧ w4.heap[b]? = w1.heap[b]?) := by
    rintro b ⟨⟨h1, h2⟩, h3⟩
    have hsz := hgr.size
    refine ⟨⟨⟨h1, by omega⟩, ?_⟩, ?_⟩
    · intro hx
      have hx' : g = b := by simpa [Value.ownBlock] using hx
      subst hx'
      rcases hat with hat | hat
      · exact h3 hat
      · omega
    · rw [hgr.block b (by omega) (fun e => h3 e.symm), hW]
      exact Below.heap_alloc w1 o b h2
  refine ⟨by rw [hl, ecells_snoc]; exact hown, Els.snoc (h.els.carry key) hc (hd.carry key)⟩

/-- What a function that copies a tree returns. -/
def Made (w : World) (h : Hd) (k : Fo) (e : Ending) (w' : World) : Prop :=
  ∃ (A : Option Addr) (cap : Nat), e = .returned (nv h A k.len cap) ∧ k.len ≤ cap ∧ Kids (Rng w.heap.size w'.heap.size) w' A k ∧ Below w.heap.size w w'

theorem set9 {W : World} {D : Nat} {h : Hd} {A A' : Option Addr} {n n' c c' : Nat} {t : TypeId} (H : W.heap[D]? = some (.cells (nc h A n c) t (0, 0))) : (W.setCell ⟨D, 4, none⟩ (.slice A' n' c')).heap[D]? = some (.cells (nc h A' n' c') t (0, 0)) := by
  simp [World.setCell, Array.getElem?_modify, H]

/-- The boxes of a call that builds a tree: what it builds in block b, the result in block r. -/
structure Bx (w wr : World) (b r : Nat) (h : Hd) (A : Option Addr) (n cap : Nat) : Prop where
  ho : wr.heap[b]? = some (.cells (nc h A n cap) 26 (0, 0))
  hr : wr.heap[r]? = some (.cells nc0 26 (0, 0))
  z : b < wr.heap.size
  zr : r < wr.heap.size
  bl : Below w.heap.size w wr
theorem Bx.below {w wr w2 : World} {b r n cap : Nat} {h : Hd} {A : Option Addr} (H : Bx w wr b r h A n cap) (hb : Below wr.heap.size wr w2) (hw : w.heap.size ≤ wr.heap.size) : Bx w w2 b r h A n cap :=
  ⟨(hb.block _ H.z).trans H.ho, (hb.block _ H.zr).trans H.hr, by have := H.z; have := hb.size; omega, by have := H.zr; have := hb.size; omega, H.bl.trans (hb.mono hw)⟩
theorem Bx.c4 {w wr : World} {b r n cap : Nat} {h : Hd} {A : Option Addr} (H : Bx w wr b r h A n cap) : wr.cell? ⟨b, 4, none⟩ = some (.slice A n cap) ∧ wr.frozen? ⟨b, 4, none⟩ = false := by
  have := H.ho
  exact ⟨by simp [World.cell?, this], by simp [World.frozen?, this]⟩
theorem Bx.all {w wr : World} {b r n cap : Nat} {h : Hd} {A : Option Addr} (H : Bx w wr b r h A n cap) : At9 wr b 0 h A n cap := by
  have := H.ho
  exact ⟨by simp [World.cell?, this], by simp [World.cell?, this], by simp [World.cell?, this], by simp [World.cell?, this], by simp [World.cell?, this], by simp [World.cell?, this], by simp [World.cell?, this], by simp [World.cell?, this], by simp [World.cell?, this]⟩
theorem Bx.res {w wr : World} {b r n cap : Nat} {h : Hd} {A : Option Addr} (H : Bx w wr b r h A n cap) : (∀ i, i < 9 → ∃ v, wr.cell? ⟨r, i, none⟩ = some v) ∧ (∀ i, wr.frozen? ⟨r, i, none⟩ = false) := by
  have := H.hr
  refine ⟨fun i hi => ?_, fun i => by simp [World.frozen?, this]⟩
  have h9 : i < nc0.size := hi
  exact ⟨nc0[i], by simp only [World.cell?, this]; exact Array.getElem?_eq_getElem h9⟩
/-- Behind the append the new row is put into the box. -/
theorem Bx.put {w W w4 : World} {b r n n' cap cap' : Nat} {h : Hd} {A A' : Option Addr} (H : Bx w W b r h A n cap) (hgr : W.grownBy w4 (Value.slice A n cap).ownBlock) (hbr : b ≠ r) (hb : (Value.slice A n cap).ownBlock ≠ some b) (hr : (Value.slice A n cap).ownBlock ≠ some r)
    (hw : w.heap.size ≤ W.heap.size) (hwb : w.heap.size ≤ b) (hlt : ∀ g, (Value.slice A n cap).ownBlock = some g → w.heap.size ≤ g) : Bx w (w4.setCell ⟨b, 4, none⟩ (.slice A' n' cap')) b r h A' n' cap' := by
  have hsz : (w4.setCell ⟨b, 4, none⟩ (.slice A' n' cap')).heap.size = w4.heap.size := by simp [World.setCell]
  have h1 : w4.heap[b]? = some (.cells (nc h A n cap) 26 (0, 0)) := (hgr.block b H.z (fun e => hb e.symm)).trans H.ho
  have h2 : w4.heap[r]? = some (.cells nc0 26 (0, 0)) := (hgr.block r H.zr (fun e => hr e.symm)).trans H.hr
  have h3 := hgr.size
  refine ⟨set9 h1, ?_, by rw [hsz]; have := H.z; omega, by rw [hsz]; have := H.zr; omega, (H.bl.grown hgr hw hlt).setCell (p := ⟨b, 4, none⟩) hwb _⟩
  rw [Below.heap_setCell _ _ _ _ (fun e => hbr e.symm)]; exact h2

theorem Bld.done {w : World} {B cap : Nat} {A : Option Addr} {E : List El} (h : Bld w B A cap E) : Kids (Rng B w.heap.size) w A (fo E) ∧ E.length ≤ cap := by
  refine ⟨(kids_of_row (S := Rng B w.heap.size) h.own (h.els.carry fun b hS => ⟨hS.1, rfl⟩) (fun g hg => h.lt hg)).2, ?_⟩
  rcases h.own.2 with ⟨hv, h0⟩ | ⟨g, c, cur, hv, _, _, hn, _⟩
  · omega
  · injection hv with e1 e2 e3
    omega
/-- Nine stores into block r. -/
theorem nine (w wr : World) (r : Nat) (v0 v1 v2 v3 v4 v5 v6 v7 v8 : Value) {W : World}
    (e : W = ((((((((wr.setCell ⟨r, 0, none⟩ v0).setCell ⟨r, 1, none⟩ v1).setCell ⟨r, 2, none⟩ v2).setCell ⟨r, 3, none⟩ v3).setCell ⟨r, 4, none⟩ v4).setCell ⟨r, 5, none⟩ v5).setCell ⟨r, 6, none⟩ v6).setCell ⟨r, 7, none⟩ v7).setCell ⟨r, 8, none⟩ v8) :
    (∀ b, b ≠ r → W.heap[b]? = wr.heap[b]?) ∧ W.heap.size = wr.heap.size ∧ (Below w.heap.size w wr → w.heap.size ≤ r → Below w.heap.size w W) := by
  subst e
  refine ⟨fun b hb => ?_, by simp [World.setCell], fun h hr => ?_⟩
  · rw [Below.heap_setCell _ _ _ _ hb, Below.heap_setCell _ _ _ _ hb, Below.heap_setCell _ _ _ _ hb, Below.heap_setCell _ _ _ _ hb, Below.heap_setCell _ _ _ _ hb, Below.heap_setCell _ _ _ _ hb, Below.heap_setCell _ _ _ _ hb, Below.heap_setCell _ _ _ _ hb, Below.heap_setCell _ _ _ _ hb]
  · exact ((((((((h.setCell (p := ⟨r, 0, none⟩) hr _).setCell (p := ⟨r, 1, none⟩) hr _).setCell (p := ⟨r, 2, none⟩) hr _).setCell (p := ⟨r, 3, none⟩) hr _).setCell (p := ⟨r, 4, none⟩) hr _).setCell (p := ⟨r, 5, none⟩) hr _).setCell (p := ⟨r, 6, none⟩) hr _).setCell (p := ⟨r, 7, none⟩) hr _).setCell (p := ⟨r, 8, none⟩) hr _
theorem made_of {w wr W : World} {B cap r : Nat} {A : Option Addr} {E : List El} {h : Hd} {F : Fo} (hb : Bld wr B A cap E) (hF : fo E = F) (hw : w.heap.size ≤ B) (hr : r < B)
    (hW : (∀ b, b ≠ r → W.heap[b]? = wr.heap[b]?) ∧ W.heap.size = wr.heap.size ∧ Below w.heap.size w W) : Made w h F (.returned (nv h A E.length cap)) W := by
  obtain ⟨h1, h2⟩ := hb.done
  subst hF
  rw [← fo_len E] at h2 ⊢
  refine ⟨A, cap, rfl, h2, ?_, hW.2.2⟩
  exact h1.carry fun b hS => ⟨⟨Nat.le_trans hw hS.1, by rw [hW.2.1]; exact hS.2⟩, hW.1 b (by have := hS.1; omega)⟩
theorem made_nine {w wr W : World} {B cap r : Nat} {A : Option Addr} {E : List El} {h : Hd} {F : Fo} {v0 v1 v2 v3 v4 v5 v6 v7 v8 : Value} (hb : Bld wr B A cap E) (hF : fo E = F) (hw : w.heap.size ≤ B) (hr : r < B) (hbl : Below w.heap.size w wr) (hwr : w.heap.size ≤ r)
    (e : W = ((((((((wr.setCell ⟨r, 0, none⟩ v0).setCell ⟨r, 1, none⟩ v1).setCell ⟨r, 2, none⟩ v2).setCell ⟨r, 3, none⟩ v3).setCell ⟨r, 4, none⟩ v4).setCell ⟨r, 5, none⟩ v5).setCell ⟨r, 6, none⟩ v6).setCell ⟨r, 7, none⟩ v7).setCell ⟨r, 8, none⟩ v8) :
    Made w h F (.returned (nv h A E.length cap)) W := by
  have h9 := nine w wr r v0 v1 v2 v3 v4 v5 v6 v7 v8 e
  exact made_of hb hF hw hr ⟨h9.1, h9.2.1, h9.2.2 hbl hwr⟩
/-- Behind the call for a child. -/
theorem after_call {w wr W w2 : World} {b r B n cap cb : Nat} {h : Hd} {A : Option Addr} {E : List El} {o : Obj} (HX : Bx w wr b r h A n cap) (HD : Bld wr B A cb E) (hw : w.heap.size ≤ wr.heap.size)
    (e0 : W.os = wr.os) (e1 : W.tape = wr.tape) (e2 : W.output = wr.output) (e3 : W.heap = (wr.alloc o).heap) (hb : Below W.heap.size W w2) : Bx w w2 b r h A n cap ∧ Bld w2 B A cb E ∧ Below wr.heap.size wr w2 ∧ wr.heap.size < w2.heap.size := by
  have hs : W.heap.size = wr.heap.size + 1 := by rw [e3]; simp
  have h1 : Below wr.heap.size wr W := ⟨e0, e1, e2, by omega, fun k hk => by rw [e3]; exact Below.heap_alloc wr o k hk⟩
  have h2 : Below wr.heap.size wr w2 := h1.trans (hb.mono (by omega))
  exact ⟨HX.below h2 hw, HD.below h2, h2, by have := hb.size; omega⟩
/-- What stands behind the call for a child: the boxes, the row so far, the child that was made. -/
structure Aft (w wr w2 : World) (b r B : Nat) (h : Hd) (A : Option Addr) (cap : Nat) (E : List El) (e : El) : Prop where
  x : Bx w w2 b r h A E.length cap
  d : Bld w2 B A cap E
  l : Below wr.heap.size wr w2
  z : wr.heap.size ≤ w2.heap.size
  hc : e.k.len ≤ e.cap
  k : Kids (fun b => Rng B w2.heap.size b ∧ (Value.slice A E.length cap).ownBlock ≠ some b) w2 e.A e.k
theorem aft_of {w wr W w2 : World} {b r B cap : Nat} {h h' : Hd} {F : Fo} {A : Option Addr} {E : List El} {o : Obj} {e : Ending} (HX : Bx w wr b r h A E.length cap) (HD : Bld wr B A cap E) (hw : w.heap.size ≤ wr.heap.size) (hB : B ≤ wr.heap.size)
    (e0 : W.os = wr.os) (e1 : W.tape = wr.tape) (e2 : W.output = wr.output) (e3 : W.heap = (wr.alloc o).heap) (hm : Made W h' F e w2) : ∃ A2 cap2, e = .returned (nv h' A2 F.len cap2) ∧ Aft w wr w2 b r B h A cap E ⟨h', F, A2, cap2⟩ := by
  obtain ⟨A2, cap2, he, hc2, hk, hb⟩ := hm
  obtain ⟨x1, x2, x3, x4⟩ := after_call HX HD hw e0 e1 e2 e3 hb
  have hs : W.heap.size = wr.heap.size + 1 := by rw [e3]; simp
  refine ⟨A2, cap2, he, x1, x2, x3, Nat.le_of_lt x4, hc2, hk.carry fun b hS => ⟨⟨⟨?_, hS.2⟩, fun e => ?_⟩, rfl⟩⟩
  · have := hS.1; omega
  · have := (HD.lt e).2
    have := hS.1
    omega
/-- Behind the append: what the walk reads; what holds when the row has been put into the box. -/
theorem push_all {w wr w2 w4 : World} {b r B g1 cap cap1 : Nat} {h : Hd} {A : Option Addr} {E : List El} {e : El} {o : Obj} (H : Aft w wr w2 b r B h A cap E e) (hw : w.heap.size ≤ wr.heap.size) (hbr : b ≠ r) (hb : b < B) (hr : r < B) (hwb : w.heap.size ≤ b)
    (hown : w4.ownsRow B 26 9 (.slice (some ⟨g1, 0, none⟩) (E.length + 1) cap1) (E.length + 1) (ecells E ++ hc e.h e.A e.k.len e.cap)) (hgr : (w2.alloc o).grownBy w4 (Value.slice A E.length cap).ownBlock) (hat : (Value.slice A E.length cap).ownBlock = some g1 ∨ g1 = w2.heap.size + 1) :
    w4.cell? ⟨b, 4, none⟩ = some (.slice A E.length cap) ∧ w4.frozen? ⟨b, 4, none⟩ = false ∧
    Bx w (w4.setCell ⟨b, 4, none⟩ (.slice (some ⟨g1, 0, none⟩) (E.length + 1) cap1)) b r h (some ⟨g1, 0, none⟩) (E ++ [e]).length cap1 ∧
    Bld (w4.setCell ⟨b, 4, none⟩ (.slice (some ⟨g1, 0, none⟩) (E.length + 1) cap1)) B (some ⟨g1, 0, none⟩) cap1 (E ++ [e]) := by
  have hl : (E ++ [e]).length = E.length + 1 := by simp
  have hX : Bx w (w2.alloc o) b r h A E.length cap := H.x.below ((Below.refl _ _).alloc (Nat.le_refl _) _) (by have := H.z; omega)
  have hne : ∀ x, x < B → (Value.slice A E.length cap).ownBlock ≠ some x := fun x hx e => by have := (H.d.lt e).1; omega
  have hbk : w4.heap[b]? = some (.cells (nc h A E.length cap) 26 (0, 0)) := (hgr.block b hX.z (fun e => hne b hb e.symm)).trans hX.ho
  refine ⟨by simp [World.cell?, hbk], by simp [World.frozen?, hbk], ?_, ?_⟩
  · rw [hl]
    exact hX.put hgr hbr (hne b hb) (hne r hr) (by have := H.z; simp; omega) hwb (fun g hg => by have := (H.d.lt hg).1; omega)
  · exact (Bld.push (W := w2.alloc o) (o := o) H.d H.hc H.k rfl rfl hown hgr hat).set_ (p := ⟨b, 4, none⟩) hb _
/-- Every other block below the row stands. -/
theorem push_keep {w wr w2 w4 : World} {b r B cap : Nat} {h : Hd} {A : Option Addr} {E : List El} {e : El} {o : Obj} {v : Value} (H : Aft w wr w2 b r B h A cap E e) (hB : B ≤ wr.heap.size)
    (hgr : (w2.alloc o).grownBy w4 (Value.slice A E.length cap).ownBlock) {x : Nat} (hx : x < B) (hxb : x ≠ b) : (w4.setCell ⟨b, 4, none⟩ v).heap[x]? = wr.heap[x]? := by
  have hz := H.z
  rw [Below.heap_setCell _ _ _ _ hxb, hgr.block x (by simp; omega) (fun e => by have := (H.d.lt e.symm).1; omega), Below.heap_alloc _ _ _ (by omega), H.l.block x (by omega)]
/-- The same, where nothing stands between the round's head and the call. -/
theorem aft_plain {w wr W w2 : World} {b r B cap : Nat} {h h' : Hd} {F : Fo} {A : Option Addr} {E : List El} {e : Ending} (HX : Bx w wr b r h A E.length cap) (HD : Bld wr B A cap E) (hw : w.heap.size ≤ wr.heap.size) (hB : B ≤ wr.heap.size)
    (e0 : W.os = wr.os) (e1 : W.tape = wr.tape) (e2 : W.output = wr.output) (e3 : W.heap = wr.heap) (hm : Made W h' F e w2) : ∃ A2 cap2, e = .returned (nv h' A2 F.len cap2) ∧ Aft w wr w2 b r B h A cap E ⟨h', F, A2, cap2⟩ := by
  obtain ⟨A2, cap2, he, hc2, hk, hb⟩ := hm
  have h1 : Below wr.heap.size wr W := ⟨e0, e1, e2, by rw [e3]; exact Nat.le_refl _, fun k _ => by rw [e3]⟩
  have h2 : Below wr.heap.size wr w2 := h1.trans (hb.mono (by rw [e3]; exact Nat.le_refl _))
  refine ⟨A2, cap2, he, HX.below h2 hw, HD.below h2, h2, h2.size, hc2, hk.carry fun b hS => ⟨⟨⟨?_, hS.2⟩, fun e => ?_⟩, rfl⟩⟩
  · have := hS.1; rw [e3] at this; omega
  · have := (HD.lt e).2
    have := hS.1
    rw [e3] at this
    omega
end Go.Proofs.YticbcnhbpbaocaaGreatDoor
