/-
  The walk of span.
  The walk of take.
  The walks of semicolon and comment.
  The walk of name.
-/
import Derived.Test.YticbcnhbpbaocaaGreatDoorWA
import Derived.Laws.OwnMore
import Derived.RegionTactic
import Derived.BigRegion

set_option linter.all false
namespace Go.Proofs.YticbcnhbpbaocaaGreatDoor
open Go.RowKit M

/-- The scanner's block: text, offset, whether a line feed inserts. -/
def Sc (w : World) (C : Nat) (s : ByteArray) (a : Nat) (ins : Bool) : Prop :=
  w.heap[C]? = some (.cells #[.string s, .int .i64 (a : Int), .bool ins] 97 (0, 0))
theorem Sc.cells {w : World} {C : Nat} {s : ByteArray} {a : Nat} {ins : Bool} (h : Sc w C s a ins) :
    w.cell? ⟨C, 0, none⟩ = some (.string s) ∧ w.cell? ⟨C, 1, none⟩ = some (.int .i64 (a : Int)) ∧ w.cell? ⟨C, 2, none⟩ = some (.bool ins) ∧
    w.frozen? ⟨C, 0, none⟩ = false ∧ w.frozen? ⟨C, 1, none⟩ = false ∧ w.frozen? ⟨C, 2, none⟩ = false ∧ C < w.heap.size := by
  unfold Sc at h
  refine ⟨by simp [World.cell?, h], by simp [World.cell?, h], by simp [World.cell?, h], by simp [World.frozen?, h], by simp [World.frozen?, h], by simp [World.frozen?, h], (Array.getElem?_eq_some_iff.1 h).1⟩

theorem quiet_left {P : Program} {f : FuncId} {args : Array Value} {w : World} {n : Nat} {v : Value}
    (h : Calls P f args (w.drewN n) fun e w' => e = .returned v ∧ w.drewN n = w') : Calls P f args (w.drewN n) fun e w'' => e = .returned v ∧ ∃ m, w'' = w.drewN m :=
  h.mono fun _ _ ⟨he, hm⟩ => ⟨he, n, hm.symm⟩
/-- w' is w, but for draws. -/
def Drawn (w w' : World) : Prop := ∃ n, w' = w.drewN n
theorem Drawn.refl (w : World) : Drawn w w := ⟨0, rfl⟩
theorem Drawn.more {w w' : World} (h : Drawn w w') (n : Nat) : Drawn w (w'.drewN n) := by
  obtain ⟨m, rfl⟩ := h
  exact ⟨m + n, World.drewN_drewN _ _ _⟩
theorem Sc.drawn {w w' : World} {C : Nat} {s : ByteArray} {a : Nat} {ins : Bool} (h : Sc w C s a ins) (d : Drawn w w') : Sc w' C s a ins := by
  obtain ⟨m, rfl⟩ := d
  exact h

theorem byte_drop (s : ByteArray) (a k : Nat) (h : a + k < s.size) : ((s.data.toList.drop a).getD k 0).toNat = s[a + k].toNat := by
  have e : (s.data.toList.drop a).getD k 0 = s[a + k] := by
    rw [List.getD_eq_getElem?_getD, List.getElem?_drop, Array.getElem?_toList, Array.getElem?_eq_getElem (by exact h)]
    rfl
  rw [e]

set_option maxRecDepth 100000 in
set_option maxHeartbeats 1000000 in
theorem span_digits (C a : Nat) (s : ByteArray) (ins : Bool) (w : World) (h : Sc w C s a ins) (hs : s.size ≤ 20000) (ha : a ≤ s.size) :
    Calls Tryz.prog 154 #[.pointer (some ⟨C, 0, none⟩), .func (.func 141) #[] #[]] w fun e w' => e = .returned (.int .i64 (spn isD (s.data.toList.drop a) : Int)) ∧ Drawn w w' := by
  have HS := Lib.hid h
  clear h
  go_enter Tryz.func154, Tryz.ntmps154
  go_wp2
  go_loopw [5] (fun i wr => ∃ k : Nat, k ≤ spn isD (s.data.toList.drop a) ∧ i = .int .i64 k ∧ Drawn w wr) (fun i _ => s.size - (intOf i).toNat)
  case atStart => exact ⟨0, Nat.zero_le _, rfl, Drawn.refl _⟩
  case round =>
    obtain ⟨k, hk, rfl, hd⟩ := hrel
    obtain ⟨c0, c1, c2, f0, f1, f2, hlt⟩ := (HS.out.drawn hd).cells
    have HD := Lib.hid hd
    have HK := Lib.hid hk
    clear hd
    have hl : k ≤ s.size - a := by have := spn_le isD (s.data.toList.drop a); simp at this; omega
    clear hk
    by_cases hlt2 : a + k < s.size
    · have hb1 : (0 : Int) ≤ (a : Int) + k := by omega
      have hb2 : (a : Int) + k < (s.size : Int) := by omega
      have HB := Lib.hid (byte_drop s a k hlt2)
      go_wp2_with fail
      have hw1 : IntKind.i64.wrap ((a : Int) + k) = (a : Int) + k := IntWalk.i64_in _ (by omega)
      have ht1 : ((a : Int) + k).toNat = a + k := by omega
      have hg : decide ((a : Int) + k < (s.size : Int)) = true := by simp; omega
      go_quiet ((go_at_call 141; exact quiet_left (digit_any _ _)))
      clear hw1
      go_wp2
      · have hp : isD s[a + k].toNat = true := by assumption
        go_roundw
        case rel => exact ⟨k + 1, spn_more _ _ _ HK.out (by simp; omega) (by rw [HB.out]; exact hp), by go_num, HD.out.more _⟩
        case measure => simp [intOf]; omega
      · have hp : isD s[a + k].toNat = false := by assumption
        go_ret
        exact ⟨reti (by rw [← spn_stop _ _ _ HK.out (fun _ => by rw [HB.out]; exact hp)]), HD.out.more _⟩
    · have hb1 : (0 : Int) ≤ (a : Int) + k := by omega
      go_wp2_with fail
      have hw1 : IntKind.i64.wrap ((a : Int) + k) = (a : Int) + k := IntWalk.i64_in _ (by omega)
      have hg : decide ((a : Int) + k < (s.size : Int)) = false := by simp; omega
      go_quiet (fail)
      clear hw1
      go_wp2
      go_ret
      exact ⟨reti (by rw [← spn_stop _ _ _ HK.out (fun g => by simp at g; omega)]), HD.out.more _⟩

set_option maxRecDepth 100000 in
set_option maxHeartbeats 1000000 in
theorem span_name (C a : Nat) (s : ByteArray) (ins : Bool) (w : World) (h : Sc w C s a ins) (hs : s.size ≤ 20000) (ha : a ≤ s.size) :
    Calls Tryz.prog 154 #[.pointer (some ⟨C, 0, none⟩), .func (.func 155) #[] #[]] w fun e w' => e = .returned (.int .i64 (spn isLD (s.data.toList.drop a) : Int)) ∧ Drawn w w' := by
  have HS := Lib.hid h
  clear h
  go_enter Tryz.func154, Tryz.ntmps154
  go_wp2
  go_loopw [5] (fun i wr => ∃ k : Nat, k ≤ spn isLD (s.data.toList.drop a) ∧ i = .int .i64 k ∧ Drawn w wr) (fun i _ => s.size - (intOf i).toNat)
  case atStart => exact ⟨0, Nat.zero_le _, rfl, Drawn.refl _⟩
  case round =>
    obtain ⟨k, hk, rfl, hd⟩ := hrel
    obtain ⟨c0, c1, c2, f0, f1, f2, hlt⟩ := (HS.out.drawn hd).cells
    have HD := Lib.hid hd
    have HK := Lib.hid hk
    clear hd
    have hl : k ≤ s.size - a := by have := spn_le isLD (s.data.toList.drop a); simp at this; omega
    clear hk
    by_cases hlt2 : a + k < s.size
    · have hb1 : (0 : Int) ≤ (a : Int) + k := by omega
      have hb2 : (a : Int) + k < (s.size : Int) := by omega
      have HB := Lib.hid (byte_drop s a k hlt2)
      go_wp2_with fail
      have hw1 : IntKind.i64.wrap ((a : Int) + k) = (a : Int) + k := IntWalk.i64_in _ (by omega)
      have ht1 : ((a : Int) + k).toNat = a + k := by omega
      have hg : decide ((a : Int) + k < (s.size : Int)) = true := by simp; omega
      go_quiet ((go_at_call 155; exact quiet_left (ld_any _ _)))
      clear hw1
      go_wp2
      · have hp : isLD s[a + k].toNat = true := by assumption
        go_roundw
        case rel => exact ⟨k + 1, spn_more _ _ _ HK.out (by simp; omega) (by rw [HB.out]; exact hp), by go_num, HD.out.more _⟩
        case measure => simp [intOf]; omega
      · have hp : isLD s[a + k].toNat = false := by assumption
        go_ret
        exact ⟨reti (by rw [← spn_stop _ _ _ HK.out (fun _ => by rw [HB.out]; exact hp)]), HD.out.more _⟩
    · have hb1 : (0 : Int) ≤ (a : Int) + k := by omega
      go_wp2_with fail
      have hw1 : IntKind.i64.wrap ((a : Int) + k) = (a : Int) + k := IntWalk.i64_in _ (by omega)
      have hg : decide ((a : Int) + k < (s.size : Int)) = false := by simp; omega
      go_quiet (fail)
      clear hw1
      go_wp2
      go_ret
      exact ⟨reti (by rw [← spn_stop _ _ _ HK.out (fun g => by simp at g; omega)]), HD.out.more _⟩

set_option maxRecDepth 100000 in
set_option maxHeartbeats 1000000 in
theorem span_feed (C a : Nat) (s : ByteArray) (ins : Bool) (w : World) (h : Sc w C s a ins) (hs : s.size ≤ 20000) (ha : a ≤ s.size) :
    Calls Tryz.prog 154 #[.pointer (some ⟨C, 0, none⟩), .func (.func 158) #[] #[]] w fun e w' => e = .returned (.int .i64 (spn notFeed (s.data.toList.drop a) : Int)) ∧ Drawn w w' := by
  have HS := Lib.hid h
  clear h
  go_enter Tryz.func154, Tryz.ntmps154
  go_wp2
  go_loopw [5] (fun i wr => ∃ k : Nat, k ≤ spn notFeed (s.data.toList.drop a) ∧ i = .int .i64 k ∧ Drawn w wr) (fun i _ => s.size - (intOf i).toNat)
  case atStart => exact ⟨0, Nat.zero_le _, rfl, Drawn.refl _⟩
  case round =>
    obtain ⟨k, hk, rfl, hd⟩ := hrel
    obtain ⟨c0, c1, c2, f0, f1, f2, hlt⟩ := (HS.out.drawn hd).cells
    have HD := Lib.hid hd
    have HK := Lib.hid hk
    clear hd
    have hl : k ≤ s.size - a := by have := spn_le notFeed (s.data.toList.drop a); simp at this; omega
    clear hk
    by_cases hlt2 : a + k < s.size
    · have hb1 : (0 : Int) ≤ (a : Int) + k := by omega
      have hb2 : (a : Int) + k < (s.size : Int) := by omega
      have HB := Lib.hid (byte_drop s a k hlt2)
      go_wp2_with fail
      have hw1 : IntKind.i64.wrap ((a : Int) + k) = (a : Int) + k := IntWalk.i64_in _ (by omega)
      have ht1 : ((a : Int) + k).toNat = a + k := by omega
      have hg : decide ((a : Int) + k < (s.size : Int)) = true := by simp; omega
      go_quiet ((go_at_call 158; exact quiet_left (feed_any _ _)))
      clear hw1
      go_wp2
      · have hp : notFeed s[a + k].toNat = true := by assumption
        go_roundw
        case rel => exact ⟨k + 1, spn_more _ _ _ HK.out (by simp; omega) (by rw [HB.out]; exact hp), by go_num, HD.out.more _⟩
        case measure => simp [intOf]; omega
      · have hp : notFeed s[a + k].toNat = false := by assumption
        go_ret
        exact ⟨reti (by rw [← spn_stop _ _ _ HK.out (fun _ => by rw [HB.out]; exact hp)]), HD.out.more _⟩
    · have hb1 : (0 : Int) ≤ (a : Int) + k := by omega
      go_wp2_with fail
      have hw1 : IntKind.i64.wrap ((a : Int) + k) = (a : Int) + k := IntWalk.i64_in _ (by omega)
      have hg : decide ((a : Int) + k < (s.size : Int)) = false := by simp; omega
      go_quiet (fail)
      clear hw1
      go_wp2
      go_ret
      exact ⟨reti (by rw [← spn_stop _ _ _ HK.out (fun g => by simp at g; omega)]), HD.out.more _⟩

end Go.Proofs.YticbcnhbpbaocaaGreatDoor

namespace Go.Proofs.YticbcnhbpbaocaaGreatDoor
open Go.RowKit M

/-- A token's box, fresh. -/
abbrev box0 : Obj := .cells #[.int .i64 0, .string ⟨#[]⟩, .int .i64 0] 65

theorem set3 {W : World} {D : Nat} {x0 x1 x2 : Value} {t : TypeId} {fr : Nat × Nat} (h : W.heap[D]? = some (.cells #[x0, x1, x2] t fr)) (v0 v1 v2 : Value) :
    (((W.setCell ⟨D, 0, none⟩ v0).setCell ⟨D, 1, none⟩ v1).setCell ⟨D, 2, none⟩ v2).heap[D]? = some (.cells #[v0, v1, v2] t fr) := by
  simp [World.setCell, Array.getElem?_modify, h]
theorem cell3 {W : World} {D : Nat} {x0 x1 x2 : Value} {t : TypeId} {fr : Nat × Nat} (h : W.heap[D]? = some (.cells #[x0, x1, x2] t fr)) :
    W.cell? ⟨D, 0, none⟩ = some x0 ∧ W.cell? ⟨D, 1, none⟩ = some x1 ∧ W.cell? ⟨D, 2, none⟩ = some x2 := by
  refine ⟨by simp [World.cell?, h], by simp [World.cell?, h], by simp [World.cell?, h]⟩

section
variable {w w' W : World} {C : Nat} {s : ByteArray} {a : Nat} {ins : Bool}
theorem Sc.lt (h : Sc w C s a ins) : C < w.heap.size := h.cells.2.2.2.2.2.2
theorem Sc.alloc (h : Sc w C s a ins) (o : Obj) : Sc (w.alloc o) C s a ins := (Below.heap_alloc w o C h.lt).trans h
theorem Sc.drew (h : Sc w C s a ins) : Sc w.drew C s a ins := h
theorem Sc.drewN (h : Sc w C s a ins) (n : Nat) : Sc (w.drewN n) C s a ins := h
theorem Sc.far (h : Sc w C s a ins) {p : Addr} (hp : C ≠ p.block) (u : Value) : Sc (w.setCell p u) C s a ins := (Below.heap_setCell w p u C hp).trans h
theorem Sc.below {B : Nat} (h : Sc w C s a ins) (hb : Below B w w') (hC : C < B) : Sc w' C s a ins := (hb.block C hC).trans h
theorem Sc.setAt (h : Sc w C s a ins) (a' : Nat) (z : Int) (hz : z = (a' : Int)) : Sc (w.setCell ⟨C, 1, none⟩ (.int .i64 z)) C s a' ins := by
  unfold Sc at h ⊢
  simp [World.setCell, Array.getElem?_modify, h, hz]
theorem Sc.setIns (h : Sc w C s a ins) (b : Bool) : Sc (w.setCell ⟨C, 2, none⟩ (.bool b)) C s a b := by
  unfold Sc at h ⊢
  simp [World.setCell, Array.getElem?_modify, h]
theorem Sc.grown {row : Option Nat} (h : Sc w C s a ins) (hb : w.grownBy w' row) (hg : some C ≠ row) : Sc w' C s a ins := (hb.block C h.lt hg).trans h

/-- Only block C may have turned. -/
theorem only_refl (W : World) (C : Nat) : W.grownBy W (some C) := ⟨rfl, rfl, rfl, Nat.le_refl _, fun _ _ _ => rfl⟩
theorem only_trans {a b c : World} {C : Nat} (h : a.grownBy b (some C)) (k : b.grownBy c (some C)) : a.grownBy c (some C) :=
  ⟨k.os.trans h.os, k.tape.trans h.tape, k.output.trans h.output, Nat.le_trans h.size k.size, fun i hi hne => (k.block i (Nat.lt_of_lt_of_le hi h.size) hne).trans (h.block i hi hne)⟩
theorem only_drewN (h : W.grownBy w (some C)) (n : Nat) : W.grownBy (w.drewN n) (some C) := ⟨h.os, h.tape, h.output, h.size, h.block⟩
theorem only_drew (h : W.grownBy w (some C)) : W.grownBy w.drew (some C) := ⟨h.os, h.tape, h.output, h.size, h.block⟩
theorem only_drawn (h : W.grownBy w (some C)) (d : Drawn w w') : W.grownBy w' (some C) := by
  obtain ⟨n, rfl⟩ := d
  exact only_drewN h n
theorem only_alloc (h : W.grownBy w (some C)) (o : Obj) : W.grownBy (w.alloc o) (some C) :=
  ⟨h.os, h.tape, h.output, Nat.le_trans h.size (by simp), fun i hi hne => (Below.heap_alloc w o i (Nat.lt_of_lt_of_le hi h.size)).trans (h.block i hi hne)⟩
theorem only_set (h : W.grownBy w (some C)) {p : Addr} (hp : p.block = C ∨ W.heap.size ≤ p.block) (u : Value) : W.grownBy (w.setCell p u) (some C) :=
  ⟨h.os, h.tape, h.output, by simpa [World.setCell] using h.size, fun i hi hne => (Below.heap_setCell w p u i (by
    rintro rfl
    rcases hp with hp | hp
    · exact hne (by rw [hp])
    · omega)).trans (h.block i hi hne)⟩
theorem only_below {B : Nat} (h : W.grownBy w (some C)) (hb : Below B w w') (hB : W.heap.size ≤ B) : W.grownBy w' (some C) :=
  ⟨hb.os.trans h.os, hb.tape.trans h.tape, hb.output.trans h.output, Nat.le_trans h.size hb.size, fun i hi hne => (hb.block i (by omega)).trans (h.block i hi hne)⟩
end

theorem size_set (W : World) (p : Addr) (u : Value) : (W.setCell p u).heap.size = W.heap.size := by simp [World.setCell]
theorem size_alloc (W : World) (o : Obj) : (W.alloc o).heap.size = W.heap.size + 1 := by simp
theorem drew_size (W : World) : W.drew.heap.size = W.heap.size := rfl

/-- Behind take's call of endsLine. -/
theorem after_take {w w' : World} {C : Nat} {s : ByteArray} {a a' : Nat} {ins b : Bool} {z : Int} {o : Obj} (v0 v1 v2 : Value) (h : Sc w C s a ins) (hz : z = (a' : Int))
    (hb : Below (((w.setCell ⟨C, 1, none⟩ (.int .i64 z)).alloc box0).alloc o).drew.heap.size (((w.setCell ⟨C, 1, none⟩ (.int .i64 z)).alloc box0).alloc o).drew w') :
    Sc ((((w'.setCell ⟨C, 2, none⟩ (.bool b)).setCell ⟨w.heap.size, 0, none⟩ v0).setCell ⟨w.heap.size, 1, none⟩ v1).setCell ⟨w.heap.size, 2, none⟩ v2) C s a' b ∧
    w.grownBy ((((w'.setCell ⟨C, 2, none⟩ (.bool b)).setCell ⟨w.heap.size, 0, none⟩ v0).setCell ⟨w.heap.size, 1, none⟩ v1).setCell ⟨w.heap.size, 2, none⟩ v2) (some C) ∧
    ((((w'.setCell ⟨C, 2, none⟩ (.bool b)).setCell ⟨w.heap.size, 0, none⟩ v0).setCell ⟨w.heap.size, 1, none⟩ v1).setCell ⟨w.heap.size, 2, none⟩ v2).heap[w.heap.size]? = some (.cells #[v0, v1, v2] 65 (0, 0)) := by
  have hlt := h.lt
  have hz1 : (((w.setCell ⟨C, 1, none⟩ (.int .i64 z)).alloc box0).alloc o).drew.heap.size = w.heap.size + 1 + 1 := by rw [drew_size, size_alloc, size_alloc, size_set]
  rw [hz1] at hb
  have hne : C ≠ w.heap.size := by omega
  refine ⟨?_, ?_, ?_⟩
  · have h1 := (((h.setAt a' z hz).alloc box0).alloc o).drew.below hb (by omega)
    exact (((h1.setIns b).far (p := ⟨w.heap.size, 0, none⟩) hne v0).far (p := ⟨w.heap.size, 1, none⟩) hne v1).far (p := ⟨w.heap.size, 2, none⟩) hne v2
  · have g1 : w.grownBy (((w.setCell ⟨C, 1, none⟩ (.int .i64 z)).alloc box0).alloc o).drew (some C) := only_drew (only_alloc (only_alloc (only_set (p := ⟨C, 1, none⟩) (only_refl w C) (.inl rfl) _) box0) o)
    have g2 := only_set (p := ⟨C, 2, none⟩) (only_below g1 hb (by omega)) (.inl rfl) (.bool b)
    exact only_set (p := ⟨w.heap.size, 2, none⟩) (only_set (p := ⟨w.heap.size, 1, none⟩) (only_set (p := ⟨w.heap.size, 0, none⟩) g2 (.inr (Nat.le_refl _)) v0) (.inr (Nat.le_refl _)) v1) (.inr (Nat.le_refl _)) v2
  · refine set3 (x0 := .int .i64 0) (x1 := .string ⟨#[]⟩) (x2 := .int .i64 0) ?_ v0 v1 v2
    rw [Below.heap_setCell _ _ _ _ (fun e => hne e.symm), hb.block _ (by omega)]
    show (World.alloc (World.alloc _ _) _).heap[_]? = _
    rw [Below.heap_alloc _ _ _ (by rw [size_alloc, size_set]; omega)]
    have := heap_alloc_new (w.setCell ⟨C, 1, none⟩ (.int .i64 z)) box0
    rw [size_set] at this
    exact this

set_option maxRecDepth 100000 in
set_option maxHeartbeats 1000000 in
theorem take_tok (C a n k : Nat) (s : ByteArray) (ins : Bool) (w : World) (h : Sc w C s a ins) (hs : s.size ≤ 20000) (ha : a + n ≤ s.size) (hk5 : ((k : Int) != 5) = true) :
    Calls Tryz.prog 153 #[.pointer (some ⟨C, 0, none⟩), .int .i64 (k : Int), .int .i64 (n : Int)] w fun e w' => e = .returned (tv k (s.extract a (a + n)) a) ∧ Sc w' C s (a + n) (endB k (s.extract a (a + n)).toList) ∧ w.grownBy w' (some C) := by
  obtain ⟨c0, c1, c2, f0, f1, f2, hlt⟩ := h.cells
  have HS := Lib.hid h
  clear h
  have hlt1 : C < w.heap.size + 1 := by omega
  have hlt2 : C < w.heap.size + 1 + 1 := by omega
  have hne1 : C ≠ w.heap.size := by omega
  have hne2 : C ≠ w.heap.size + 1 := by omega
  go_enter Tryz.func153, Tryz.ntmps153
  go_wp2_with fail
  have hw1 : IntKind.i64.wrap ((a : Int) + n) = (a : Int) + n := IntWalk.i64_in _ (by omega)
  have ht1 : ((a : Int) + n).toNat = a + n := by omega
  have hb1 : (0 : Int) ≤ (a : Int) + n := by omega
  have hb0 : (0 : Int) ≤ (a : Int) := by omega
  have hb2 : (a : Int) ≤ (a : Int) + n := by omega
  have hb3 : (a : Int) + n ≤ (s.size : Int) := by omega
  go_region
  clear ht1
  go_wp2_with (go_at_call 161; refine (endsLine_any _ _ _ _).mono ?_; rintro e w' ⟨rfl, hb1⟩; obtain ⟨hc, hf⟩ := bcell hb1)
  obtain ⟨A1, A2, A3⟩ := after_take (.int .i64 (k : Int)) (.string (s.extract a (a + n))) (.int .i64 (a : Int)) (b := endB k (s.extract a (a + n)).toList) (a' := a + n) HS.out (by omega) hb1
  obtain ⟨q0, q1, q2⟩ := cell3 A3
  have A := Lib.hid (And.intro A1 A2)
  clear A1 A2 A3 hc hf hb1
  exact bodyPost_ret (v := tv k (s.extract a (a + n)) a) (by simp [results, Tryz.results153, go_sem, q0, q1, q2]) rfl ⟨rfl, A.out⟩

set_option maxRecDepth 100000 in
set_option maxHeartbeats 1000000 in
theorem take_comment (C a n : Nat) (s : ByteArray) (ins : Bool) (w : World) (h : Sc w C s a ins) (hs : s.size ≤ 20000) (ha : a + n ≤ s.size) :
    Calls Tryz.prog 153 #[.pointer (some ⟨C, 0, none⟩), .int .i64 5, .int .i64 (n : Int)] w fun e w' => e = .returned (tv 5 (s.extract a (a + n)) a) ∧ Sc w' C s (a + n) ins ∧ w.grownBy w' (some C) := by
  obtain ⟨c0, c1, c2, f0, f1, f2, hlt⟩ := h.cells
  have HS := Lib.hid h
  clear h
  have hlt1 : C < w.heap.size + 1 := by omega
  have hlt2 : C < w.heap.size + 1 + 1 := by omega
  have hne1 : C ≠ w.heap.size := by omega
  have hne2 : C ≠ w.heap.size + 1 := by omega
  go_enter Tryz.func153, Tryz.ntmps153
  go_wp2_with fail
  have hw1 : IntKind.i64.wrap ((a : Int) + n) = (a : Int) + n := IntWalk.i64_in _ (by omega)
  have ht1 : ((a : Int) + n).toNat = a + n := by omega
  have hb1 : (0 : Int) ≤ (a : Int) + n := by omega
  have hb0 : (0 : Int) ≤ (a : Int) := by omega
  have hb2 : (a : Int) ≤ (a : Int) + n := by omega
  have hb3 : (a : Int) + n ≤ (s.size : Int) := by omega
  go_region
  clear ht1
  go_wp2
  refine bodyPost_ret (v := tv 5 (s.extract a (a + n)) a) (by simp [results, Tryz.results153, go_sem]) rfl ⟨rfl, ?_, ?_⟩
  · exact (((HS.out.setAt (a + n) _ (by omega)).alloc _).alloc _).drew
  · exact only_drew (only_alloc (only_alloc (only_set (p := ⟨C, 1, none⟩) (only_refl w C) (.inl rfl) _) _) _)
end Go.Proofs.YticbcnhbpbaocaaGreatDoor

namespace Go.Proofs.YticbcnhbpbaocaaGreatDoor
open Go.RowKit M

/-- A result's box is filled. -/
theorem box_done {w W : World} {C D a' : Nat} {s : ByteArray} {b : Bool} {x0 x1 x2 : Value} (v0 v1 v2 : Value) (h : Sc W C s a' b) (g : w.grownBy W (some C)) (q : W.heap[D]? = some (.cells #[x0, x1, x2] 65 (0, 0))) (hD : w.heap.size ≤ D) (hne : C ≠ D) :
    (Sc (((W.setCell ⟨D, 0, none⟩ v0).setCell ⟨D, 1, none⟩ v1).setCell ⟨D, 2, none⟩ v2) C s a' b ∧ w.grownBy (((W.setCell ⟨D, 0, none⟩ v0).setCell ⟨D, 1, none⟩ v1).setCell ⟨D, 2, none⟩ v2) (some C)) ∧
    (((W.setCell ⟨D, 0, none⟩ v0).setCell ⟨D, 1, none⟩ v1).setCell ⟨D, 2, none⟩ v2).cell? ⟨D, 0, none⟩ = some v0 ∧
    (((W.setCell ⟨D, 0, none⟩ v0).setCell ⟨D, 1, none⟩ v1).setCell ⟨D, 2, none⟩ v2).cell? ⟨D, 1, none⟩ = some v1 ∧
    (((W.setCell ⟨D, 0, none⟩ v0).setCell ⟨D, 1, none⟩ v1).setCell ⟨D, 2, none⟩ v2).cell? ⟨D, 2, none⟩ = some v2 := by
  refine ⟨⟨((h.far (p := ⟨D, 0, none⟩) hne v0).far (p := ⟨D, 1, none⟩) hne v1).far (p := ⟨D, 2, none⟩) hne v2, only_set (p := ⟨D, 2, none⟩) (only_set (p := ⟨D, 1, none⟩) (only_set (p := ⟨D, 0, none⟩) g (.inr hD) v0) (.inr hD) v1) (.inr hD) v2⟩, ?_⟩
  exact cell3 (set3 q v0 v1 v2)

/-- The box behind a call. -/
theorem box_behind {w w1 : World} {C : Nat} (hC : C < w.heap.size) (g : (w.alloc box0).grownBy w1 (some C)) :
    w1.heap[w.heap.size]? = some box0 ∧ w.grownBy w1 (some C) ∧ w.heap.size < w1.heap.size ∧ C < w1.heap.size := by
  have hs := g.size
  rw [size_alloc] at hs
  refine ⟨(g.block _ (by rw [size_alloc]; omega) (fun e => by cases e; omega)).trans (heap_alloc_new w box0), only_trans (only_alloc (only_refl w C) box0) g, by omega, by omega⟩
theorem box_facts {w : World} {D : Nat} (q : w.heap[D]? = some box0) :
    (∃ x, w.cell? ⟨D, 0, none⟩ = some x) ∧ (∃ x, w.cell? ⟨D, 1, none⟩ = some x) ∧ (∃ x, w.cell? ⟨D, 2, none⟩ = some x) ∧ w.frozen? ⟨D, 0, none⟩ = false ∧ w.frozen? ⟨D, 1, none⟩ = false ∧ w.frozen? ⟨D, 2, none⟩ = false := by
  refine ⟨⟨_, by simp [World.cell?, q]; rfl⟩, ⟨_, by simp [World.cell?, q]; rfl⟩, ⟨_, by simp [World.cell?, q]; rfl⟩, by simp [World.frozen?, q], by simp [World.frozen?, q], by simp [World.frozen?, q]⟩

set_option maxRecDepth 100000 in
set_option maxHeartbeats 1000000 in
theorem comment_tok (C a : Nat) (s : ByteArray) (ins : Bool) (w : World) (h : Sc w C s a ins) (hs : s.size ≤ 20000) (ha : a ≤ s.size) :
    Calls Tryz.prog 143 #[.pointer (some ⟨C, 0, none⟩)] w fun e w' => e = .returned (tv 5 (s.extract a (a + spn notFeed (s.data.toList.drop a))) a) ∧ Sc w' C s (a + spn notFeed (s.data.toList.drop a)) ins ∧ w.grownBy w' (some C) := by
  have HS := Lib.hid h
  have hC := h.lt
  clear h
  have hn : a + spn notFeed (s.data.toList.drop a) ≤ s.size := by have := spn_le notFeed (s.data.toList.drop a); simp at this; omega
  go_enter Tryz.func143, Tryz.ntmps143
  go_wp2_with fail
  refine (span_feed C a s ins _ (HS.out.alloc _) hs ha).mono ?_
  rintro e w1 ⟨rfl, hd⟩
  have HS1 := Lib.hid ((HS.out.alloc box0).drawn hd)
  have HG1 := Lib.hid (only_drawn (only_refl (w.alloc box0) C) hd)
  clear hd
  go_wp2_with fail
  refine (take_comment C a _ s ins _ HS1.out hs hn).mono ?_
  rintro e w2 ⟨rfl, h2, g2⟩
  obtain ⟨q, g, l1, l2⟩ := box_behind hC (only_trans HG1.out g2)
  obtain ⟨⟨x0, c0⟩, ⟨x1, c1⟩, ⟨x2, c2⟩, f0, f1, f2⟩ := box_facts q
  obtain ⟨A, r0, r1, r2⟩ := box_done (.int .i64 5) (.string (s.extract a (a + spn notFeed (s.data.toList.drop a)))) (.int .i64 (a : Int)) h2 g q (Nat.le_refl _) (by omega)
  have HA := Lib.hid A
  clear A h2 g2 g q
  go_wp2
  exact bodyPost_ret (v := tv 5 (s.extract a (a + spn notFeed (s.data.toList.drop a))) a) (by simp [results, Tryz.results143, go_sem, r0, r1, r2]) rfl ⟨rfl, HA.out⟩

set_option maxRecDepth 100000 in
set_option maxHeartbeats 1000000 in
theorem semicolon_tok (C a : Nat) (s : ByteArray) (ins : Bool) (w : World) (h : Sc w C s a ins) (hs : s.size ≤ 20000) (ha : a < s.size) (hb : (s.extract a (a + 1)).toList = [10]) :
    Calls Tryz.prog 138 #[.pointer (some ⟨C, 0, none⟩)] w fun e w' => e = .returned (tv 4 ⟨#[59]⟩ a) ∧ Sc w' C s (a + 1) false ∧ w.grownBy w' (some C) := by
  have HS := Lib.hid h
  have HB := Lib.hid hb
  have hC := h.lt
  clear h hb
  go_enter Tryz.func138, Tryz.ntmps138
  go_wp2_with fail
  refine (take_tok C a 1 4 s ins _ (HS.out.alloc _) hs (by omega) (by decide)).mono ?_
  rintro e w2 ⟨rfl, h2, g2⟩
  have h3 : Sc w2 C s (a + 1) false := by rw [HB.out] at h2; exact h2
  obtain ⟨q, g, l1, l2⟩ := box_behind hC g2
  obtain ⟨⟨x0, c0⟩, ⟨x1, c1⟩, ⟨x2, c2⟩, f0, f1, f2⟩ := box_facts q
  obtain ⟨A, r0, r1, r2⟩ := box_done (.int .i64 4) (.string ⟨#[59]⟩) (.int .i64 (a : Int)) h3 g q (Nat.le_refl _) (by omega)
  have HA := Lib.hid (And.intro (A.1.alloc (.cells #[.int .i64 4, .string ⟨#[59]⟩, .int .i64 (a : Int)] 65)) (only_alloc A.2 (.cells #[.int .i64 4, .string ⟨#[59]⟩, .int .i64 (a : Int)] 65)))
  have s0 := (World.cell?_alloc_lt _ (.cells #[.int .i64 4, .string ⟨#[59]⟩, .int .i64 (a : Int)] 65) ⟨w.heap.size, 0, none⟩ (by rw [size_set, size_set, size_set]; exact l1)).trans r0
  have s1 := (World.cell?_alloc_lt _ (.cells #[.int .i64 4, .string ⟨#[59]⟩, .int .i64 (a : Int)] 65) ⟨w.heap.size, 1, none⟩ (by rw [size_set, size_set, size_set]; exact l1)).trans r1
  have s2 := (World.cell?_alloc_lt _ (.cells #[.int .i64 4, .string ⟨#[59]⟩, .int .i64 (a : Int)] 65) ⟨w.heap.size, 2, none⟩ (by rw [size_set, size_set, size_set]; exact l1)).trans r2
  clear A h2 g2 g q h3 r0 r1 r2
  have l3 : w.heap.size ≠ w2.heap.size := by omega
  go_wp2
  exact bodyPost_ret (v := tv 4 ⟨#[59]⟩ a) (by simp [results, Tryz.results138, go_sem, s0, s1, s2]) rfl ⟨rfl, HA.out⟩
end Go.Proofs.YticbcnhbpbaocaaGreatDoor

namespace Go.Proofs.YticbcnhbpbaocaaGreatDoor
open Go.RowKit M

/-- A method's end: a token and an error; the scanner's block as told; nothing else of what was there has turned. -/
def Ends (w : World) (C : Nat) (s : ByteArray) (k : Nat) (t : ByteArray) (a err a' : Nat) (ins : Bool) (e : Ending) (w' : World) : Prop :=
  e = .returned (.tuple #[tv k t a, .int .i64 (err : Int)]) ∧ Sc w' C s a' ins ∧ w.grownBy w' (some C)

theorem keyword_v {s : ByteArray} {v : Bool} (h : kw s.toList = v) (w : World) : Calls Tryz.prog 156 #[.string s] w fun e w' => e = .returned (.bool v) ∧ w = w' := by
  rw [← h]; exact keyword_any s w

set_option maxRecDepth 100000 in
set_option maxHeartbeats 1000000 in
theorem name_long (C a : Nat) (s : ByteArray) (ins : Bool) (w : World) (h : Sc w C s a ins) (hs : s.size ≤ 20000) (ha : a ≤ s.size) (hn : 32 < spn isLD (s.data.toList.drop a)) :
    Calls Tryz.prog 140 #[.pointer (some ⟨C, 0, none⟩)] w (Ends w C s 0 ⟨#[]⟩ 0 3 a ins) := by
  have HS := Lib.hid h
  have hC := h.lt
  clear h
  have hn1 : a + spn isLD (s.data.toList.drop a) ≤ s.size := by have := spn_le isLD (s.data.toList.drop a); simp at this; omega
  have hd : decide ((32 : Int) < (spn isLD (s.data.toList.drop a) : Int)) = true := by simp; omega
  have hd2 : (32 : Int) < (spn isLD (s.data.toList.drop a) : Int) := by omega
  go_enter Tryz.func140, Tryz.ntmps140
  go_wp2_with fail
  refine (span_name C a s ins _ (HS.out.alloc _) hs ha).mono ?_
  rintro e w1 ⟨rfl, hd⟩
  have HS1 := Lib.hid ((HS.out.alloc box0).drawn hd)
  obtain ⟨q, g, l1, l2⟩ := box_behind hC (only_drawn (only_refl (w.alloc box0) C) hd)
  obtain ⟨⟨x0, c0⟩, ⟨x1, c1⟩, ⟨x2, c2⟩, f0, f1, f2⟩ := box_facts q
  obtain ⟨A, r0, r1, r2⟩ := box_done (.int .i64 0) (.string ⟨#[]⟩) (.int .i64 0) HS1.out g q (Nat.le_refl _) (by omega)
  have HA := Lib.hid A
  clear A hd g q
  go_wp2
  exact bodyPost_ret (v := .tuple #[tv 0 ⟨#[]⟩ 0, .int .i64 3]) (by simp [results, Tryz.results140, go_sem, r0, r1, r2]) rfl ⟨rfl, HA.out⟩

/-- The kind of a name that may be a keyword. -/
def kwKind (x : Bs) : Nat := if kw x then 3 else 1
theorem kw_ends {w w' : World} {C a a' : Nat} {s x : ByteArray} {v b : Bool} {k : Nat} {e : Ending} (hv : kw x.toList = v) (hk : (if v then 3 else 1) = k) (hb : b = endB k x.toList) (h : Ends w C s k x a 0 a' b e w') :
    Ends w C s (kwKind x.toList) x a 0 a' (endB (kwKind x.toList) x.toList) e w' := by
  rw [kwKind, hv, hk, ← hb]; exact h

set_option maxRecDepth 100000 in
set_option maxHeartbeats 1000000 in
theorem name_short (C a : Nat) (s : ByteArray) (ins : Bool) (w : World) (h : Sc w C s a ins) (hs : s.size ≤ 20000) (ha : a ≤ s.size) (hn : ¬ 32 < spn isLD (s.data.toList.drop a)) :
    Calls Tryz.prog 140 #[.pointer (some ⟨C, 0, none⟩)] w (Ends w C s (kwKind (s.extract a (a + spn isLD (s.data.toList.drop a))).toList) (s.extract a (a + spn isLD (s.data.toList.drop a))) a 0 (a + spn isLD (s.data.toList.drop a)) (endB (kwKind (s.extract a (a + spn isLD (s.data.toList.drop a))).toList) (s.extract a (a + spn isLD (s.data.toList.drop a))).toList)) := by
  have HS := Lib.hid h
  have hC := h.lt
  clear h
  have hn1 : a + spn isLD (s.data.toList.drop a) ≤ s.size := by have := spn_le isLD (s.data.toList.drop a); simp at this; omega
  have hd : decide ((32 : Int) < (spn isLD (s.data.toList.drop a) : Int)) = false := by simp; omega
  have hb1 : (0 : Int) ≤ (a : Int) + spn isLD (s.data.toList.drop a) := by omega
  have hb0 : (0 : Int) ≤ (a : Int) := by omega
  have hb2 : (a : Int) ≤ (a : Int) + spn isLD (s.data.toList.drop a) := by omega
  have hb3 : (a : Int) + spn isLD (s.data.toList.drop a) ≤ (s.size : Int) := by omega
  go_enter Tryz.func140, Tryz.ntmps140
  go_wp2_with fail
  refine (span_name C a s ins _ (HS.out.alloc _) hs ha).mono ?_
  rintro e w1 ⟨rfl, hdr⟩
  have HS1 := Lib.hid ((HS.out.alloc box0).drawn hdr)
  obtain ⟨c0, c1, c2, f0, f1, f2, hlt⟩ := HS1.out.cells
  have HG1 := Lib.hid (only_drawn (only_refl (w.alloc box0) C) hdr)
  clear hdr
  go_wp2_with fail
  have hw1 : IntKind.i64.wrap ((a : Int) + spn isLD (s.data.toList.drop a)) = (a : Int) + spn isLD (s.data.toList.drop a) := IntWalk.i64_in _ (by omega)
  have ht1 : ((a : Int) + spn isLD (s.data.toList.drop a)).toNat = a + spn isLD (s.data.toList.drop a) := by omega
  go_quiet ((go_at_call 156; exact quiet_left (keyword_any _ _)))
  clear hw1 ht1 c0 c1 c2 f0 f1 f2
  go_wp2_with fail
  · have HV := Lib.hid (show kw (s.extract a (a + spn isLD (s.data.toList.drop a))).toList = true by assumption)
    refine (take_tok C a _ 3 s ins _ (HS1.out.drewN nq) hs hn1 (by decide)).mono ?_
    rintro e w2 ⟨rfl, h2, g2⟩
    obtain ⟨q, g, l1, l2⟩ := box_behind hC (only_trans (only_drewN HG1.out nq) g2)
    obtain ⟨⟨x0, c0⟩, ⟨x1, c1⟩, ⟨x2, c2⟩, f0, f1, f2⟩ := box_facts q
    obtain ⟨A, r0, r1, r2⟩ := box_done (.int .i64 3) (.string (s.extract a (a + spn isLD (s.data.toList.drop a)))) (.int .i64 (a : Int)) h2 g q (Nat.le_refl _) (by omega)
    have HA := Lib.hid A
    clear A g q h2 g2
    go_wp2
    exact bodyPost_ret (v := .tuple #[tv 3 (s.extract a (a + spn isLD (s.data.toList.drop a))) a, .int .i64 0]) (by simp [results, Tryz.results140, go_sem, r0, r1, r2]) rfl (kw_ends HV.out rfl rfl ⟨rfl, HA.out⟩)
  · have HV := Lib.hid (show kw (s.extract a (a + spn isLD (s.data.toList.drop a))).toList = false by assumption)
    refine (take_tok C a _ 1 s ins _ (HS1.out.drewN nq) hs hn1 (by decide)).mono ?_
    rintro e w2 ⟨rfl, h2, g2⟩
    obtain ⟨q, g, l1, l2⟩ := box_behind hC (only_trans (only_drewN HG1.out nq) g2)
    obtain ⟨⟨x0, c0⟩, ⟨x1, c1⟩, ⟨x2, c2⟩, f0, f1, f2⟩ := box_facts q
    obtain ⟨A, r0, r1, r2⟩ := box_done (.int .i64 1) (.string (s.extract a (a + spn isLD (s.data.toList.drop a)))) (.int .i64 (a : Int)) h2 g q (Nat.le_refl _) (by omega)
    have HA := Lib.hid A
    clear A g q h2 g2
    go_wp2
    exact bodyPost_ret (v := .tuple #[tv 1 (s.extract a (a + spn isLD (s.data.toList.drop a))) a, .int .i64 0]) (by simp [results, Tryz.results140, go_sem, r0, r1, r2]) rfl (kw_ends HV.out rfl rfl ⟨rfl, HA.out⟩)
end Go.Proofs.YticbcnhbpbaocaaGreatDoor
