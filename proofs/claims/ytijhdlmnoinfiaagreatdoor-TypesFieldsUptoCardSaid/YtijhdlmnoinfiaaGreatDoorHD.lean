/-
  The fields of a struct: the plain mathematics; what stands in the loop over the children.
-/
import Derived.Test.YtijhdlmnoinfiaaGreatDoorHC
set_option linter.all false
namespace Go.Proofs.YtijhdlmnoinfiaaGreatDoor
open Go.RowKit T T.Fo Ty
/-- A field. -/
structure Fl where
  n : ByteArray
  k : Int
  s : ByteArray
def cellF (x : Fl) : List Value := [.string x.n, .int .i64 x.k, .string x.s]
def fcells (l : List Fl) : List Value := l.flatMap cellF
theorem fcells_snoc (l : List Fl) (x : Fl) : fcells (l ++ [x]) = fcells l ++ cellF x := by simp [fcells]
theorem fcells_len (l : List Fl) : (fcells l).length = l.length * 3 := by
  induction l with
  | nil => rfl
  | cons a l ih =>
    have : fcells (a :: l) = cellF a ++ fcells l := rfl
    rw [this, List.length_append, ih, List.length_cons]
    show 3 + _ = _
    omega
theorem fcells_at : ∀ (E : List Fl) (i : Nat) (e : Fl), E[i]? = some e → ∀ (c : Nat) (v : Value), (cellF e)[c]? = some v → (fcells E)[i * 3 + c]? = some v := by
  intro E
  induction E with
  | nil => intro i e he; simp at he
  | cons a l ih =>
    intro i e he c v hv
    have ha : (cellF a).length = 3 := rfl
    have e0 : fcells (a :: l) = cellF a ++ fcells l := rfl
    cases i with
    | zero =>
      obtain rfl : a = e := by simpa using he
      have hc : c < (cellF a).length := (List.getElem?_eq_some_iff.1 hv).1
      rw [e0, Nat.zero_mul, Nat.zero_add, List.getElem?_append_left hc, hv]
    | succ j =>
      have := ih j e (by simpa using he) c v hv
      rw [e0, List.getElem?_append_right (by rw [ha]; omega), ha, show (j + 1) * 3 + c - 3 = j * 3 + c by omega]
      exact this
/-- The field of a child. -/
def fl1 (h : Hd) : Fo → Option Fl
  | .cons h' k' .nil => if decide (h.kind = 3) && ofB h' k'.len then some ⟨h.text, ofK h' k'.len, ofN h' k'.len⟩ else none
  | _ => none
def fls : Fo → Option (List Fl)
  | .nil => some []
  | .cons h k r => (fl1 h k).bind fun x => (fls r).map (x :: ·)
def flds (nm : ByteArray) : Fo → Option (List Fl)
  | .nil => none
  | .cons h k r => if decide (h.kind = 2) && decide (h.text.toList = nm.toList) then fls k else flds nm r
theorem fls_step {h : Hd} {k r F : Fo} {acc : List Fl} {x : Fl} (hq : fls F = (fls (.cons h k r)).map (acc ++ ·)) (hx : fl1 h k = some x) : fls F = (fls r).map ((acc ++ [x]) ++ ·) := by
  rw [hq]
  show ((fl1 h k).bind fun x => (fls r).map (x :: ·)).map (acc ++ ·) = _
  rw [hx]
  cases fls r <;> simp
theorem fls_none {h : Hd} {k r F : Fo} {acc : List Fl} (hq : fls F = (fls (.cons h k r)).map (acc ++ ·)) (hx : fl1 h k = none) : fls F = none := by
  rw [hq]
  show ((fl1 h k).bind fun x => (fls r).map (x :: ·)).map (acc ++ ·) = _
  rw [hx]; rfl
theorem fls_done {F : Fo} {acc : List Fl} (hq : fls F = (fls .nil).map (acc ++ ·)) : fls F = some acc := by
  rw [hq]; simp [fls]
theorem fl1_kind {h : Hd} {k : Fo} (e : (h.kind != 3) = true) : fl1 h k = none := by
  have : decide (h.kind = 3) = false := by simpa using e
  match k with
  | .nil => rfl
  | .cons h' k' .nil => unfold fl1; rw [this]; rfl
  | .cons h' k' (.cons _ _ _) => rfl
theorem fl1_len {h : Hd} {k : Fo} (e : ¬ k.len = 1) : fl1 h k = none := by
  match k, e with
  | .nil, _ => rfl
  | .cons h' k' .nil, e => exact absurd rfl e
  | .cons h' k' (.cons _ _ _), _ => rfl
theorem len1 {k : Fo} (e : k.len = 1) : ∃ h' k', k = .cons h' k' .nil := by
  match k, e with
  | .nil, e => cases e
  | .cons h' k' .nil, _ => exact ⟨h', k', rfl⟩
  | .cons h' k' (.cons _ _ r), e => simp only [Fo.len] at e; omega
/-- What a function that looks for fields returns. -/
def FNo (w : World) (e : Ending) (w' : World) : Prop := e = .returned (.tuple #[.slice none 0 0, .bool false]) ∧ Below w.heap.size w w'
def FYes (w : World) (l : List Fl) (e : Ending) (w' : World) : Prop := ∃ A c, e = .returned (.tuple #[.slice A l.length c, .bool true]) ∧ w'.ownsRow w.heap.size 56 3 (.slice A l.length c) l.length (fcells l) ∧ Below w.heap.size w w'
def FPost (w : World) (o : Option (List Fl)) (e : Ending) (w' : World) : Prop := (o = none → FNo w e w') ∧ (∀ l, o = some l → FYes w l e w')
theorem fpost_none {w : World} {o : Option (List Fl)} {e : Ending} {w' : World} (h : o = none) (hp : FNo w e w') : FPost w o e w' := ⟨fun _ => hp, fun l hl => by rw [h] at hl; cases hl⟩
theorem fpost_some {w : World} {o : Option (List Fl)} {e : Ending} {w' : World} {l : List Fl} (h : o = some l) (hp : FYes w l e w') : FPost w o e w' := ⟨fun hn => (by rw [h] at hn; cases hn), fun l' hl => by rw [h] at hl; cases hl; exact hp⟩
theorem info56 : (Tryz.prog.info? 56).map (fun i => (i.zero, i.size, i.bytes)) = some (some (.agg #[.string ⟨#[]⟩, .int .i64 0, .string ⟨#[]⟩]), 3, 40) := by kernel_rfl
theorem ownf_ne {w : World} {C n : Nat} {v : Value} {xs : List Value} (h : w.ownsRow (C + 1) 56 3 v n xs) : v.ownBlock ≠ some C := by
  intro e
  have := h.lt C e
  omega
theorem ownf_base {w : World} {C n : Nat} {v : Value} {xs : List Value} (h : w.ownsRow (C + 1) 56 3 v n xs) : w.ownsRow C 56 3 v n xs := by
  obtain ⟨q1, q2⟩ := h
  refine ⟨q1, ?_⟩
  rcases q2 with q2 | ⟨g', c, cur, hv, hb, r⟩
  · exact .inl q2
  · exact .inr ⟨g', c, cur, hv, by omega, r⟩
theorem ownf_kept {w w' : World} {base n cap : Nat} {A : Option Addr} {xs : List Value} (h : w.ownsRow base 56 3 (.slice A n cap) n xs) (hb : Below w.heap.size w w') : w'.ownsRow base 56 3 (.slice A n cap) n xs := by
  obtain ⟨q1, q2⟩ := h
  refine ⟨q1, ?_⟩
  rcases q2 with q2 | ⟨g', c, cur, hv, hbb, hg, r⟩
  · exact .inl q2
  · exact .inr ⟨g', c, cur, hv, hbb, (hb.block g' (Array.getElem?_eq_some_iff.1 hg).1).trans hg, r⟩
/-- What stands in the loop over the children of a struct: w is the world in which the struct's box came up. -/
structure FInv (w wr : World) (F : Fo) (A0 : Option Addr) (cap0 : Nat) (acc : List Fl) (A : Option Addr) (cap : Nat) (i : Nat) (R : Fo) : Prop where
  q : fls F = (fls R).map (acc ++ ·)
  r : Rest (Lt w.heap.size) w A0 F i R
  own : wr.ownsRow (w.heap.size + 1) 56 3 (.slice A acc.length cap) acc.length (fcells acc)
  b : Below w.heap.size w wr
  z : w.heap.size < wr.heap.size
  c4 : wr.cell? ⟨w.heap.size, 4, none⟩ = some (.slice A0 F.len cap0)
  a : R.AllH numIx
  n : R.cnt ≤ 1000000
  l : acc.length = i
theorem FInv.start {w : World} {F : Fo} {A0 : Option Addr} {cap0 : Nat} (hd : Hd) (hk : Kids (Lt w.heap.size) w A0 F) (hF : F.AllH numIx) (hm : F.cnt ≤ 1000000) : FInv w (w.alloc (.cells (nc hd A0 F.len cap0) 26)) F A0 cap0 [] none 0 0 F := by
  have h1 := heap_alloc_new w (.cells (nc hd A0 F.len cap0) 26)
  exact ⟨by cases fls F <;> simp, Rest.start hk, World.ownsRow_nil _ _ _ _, b1 w _, by simp, by simp only [World.cell?, h1]; rfl, hF, hm, rfl⟩
theorem FInv.push {w wr V2 w4 : World} {h' : Hd} {k' r F : Fo} {A0 A : Option Addr} {cap0 cap cap' g i : Nat} {acc : List Fl} {x : Fl} {o o1 o2 : Obj} (H : FInv w wr F A0 cap0 acc A cap i (.cons h' k' r)) (hx : fl1 h' k' = some x)
    (hb : Below (wr.alloc o).heap.size (wr.alloc o) V2) (hown : w4.ownsRow (w.heap.size + 1) 56 3 (.slice (some ⟨g, 0, none⟩) (acc.length + 1) cap') (acc.length + 1) (fcells acc ++ cellF x))
    (hgr : ((V2.alloc o1).alloc o2).grownBy w4 (Value.slice A acc.length cap).ownBlock) : FInv w w4 F A0 cap0 (acc ++ [x]) (some ⟨g, 0, none⟩) cap' (i + 1) r := by
  have hz := H.z
  have hbs : wr.heap.size + 1 ≤ V2.heap.size := by have := hb.size; simp at this; omega
  have hB : Below wr.heap.size wr V2 := (b1 wr o).trans (hb.mono (by simp))
  have hne := ownf_ne H.own
  have hz2 : ((V2.alloc o1).alloc o2).heap.size = V2.heap.size + 1 + 1 := by simp
  have hg2 : ∀ q, (Value.slice A acc.length cap).ownBlock = some q → w.heap.size < q := fun q hq => by have := H.own.lt q hq; omega
  obtain ⟨a1, a2, a3⟩ := H.a
  have hn := H.n
  simp only [Fo.cnt] at hn
  refine ⟨fls_step H.q hx, H.r.tail, ?_, ?_, ?_, ?_, a3, by omega, by rw [List.length_append, H.l]; rfl⟩
  · rw [List.length_append, fcells_snoc]; exact hown
  · exact (((H.b.trans (hB.mono (by omega))).alloc (by omega) o1).alloc (by simp; omega) o2).grown hgr (by omega) (fun q hq => by have := hg2 q hq; omega)
  · have := hgr.size; omega
  · rw [hgr.cell_far ⟨w.heap.size, 4, none⟩ (by show w.heap.size < _; omega) (by intro e; exact hne e.symm), World.cell?_alloc_lt _ _ _ (by show w.heap.size < _; simp; omega), World.cell?_alloc_lt _ _ _ (by show w.heap.size < _; omega)]
    exact (hB.cell (p := ⟨w.heap.size, 4, none⟩) hz).trans H.c4
end Go.Proofs.YtijhdlmnoinfiaaGreatDoor
