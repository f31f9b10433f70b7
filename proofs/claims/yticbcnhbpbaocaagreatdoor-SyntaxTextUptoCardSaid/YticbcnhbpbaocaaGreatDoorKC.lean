/-
  The walk of awake: the document's example holds.
  The walk of awake: the document's example holds.
-/
import Derived.Test.YticbcnhbpbaocaaGreatDoorKB
import Derived.Test.YticbcnhbpbaocaaGreatDoorQI
import Derived.Test.YticbcnhbpbaocaaGreatDoorCF
import Derived.Test.YticbcnhbpbaocaaGreatDoorCE
import Derived.Deep.RegionHeld3

set_option linter.all false
namespace Go.Proofs.YticbcnhbpbaocaaGreatDoor
open Go.RowKit Go.Shelf T T.Fo
set_option linter.all false
attribute [local go_sem] Oper.semAt_some

theorem Blk.cell {w : World} {B g : Nat} {l : List El} (h : Blk w B g l) (j : Nat) (v : Value) (hj : (ecells l)[j]? = some v) : w.cell? ⟨g, 0 + j, none⟩ = some v := by
  simp [World.cell?, h.1, hj]
theorem Blk.lies {S : Nat → Prop} {w : World} {B g : Nat} {l : List El} (h : Blk w B g l) (hS : S g) (he : Els S w l) : LiesF S w (fo l) g 0 := lies_of_cells hS l 0 he h.cell
theorem els1 {S : Nat → Prop} {w : World} {a : El} (ha : a.k.len ≤ a.cap ∧ Kids S w a.A a.k) : Els S w [a] := fun e he => by
  simp at he; subst he; exact ha
theorem els2 {S : Nat → Prop} {w : World} {a b : El} (ha : a.k.len ≤ a.cap ∧ Kids S w a.A a.k) (hb : b.k.len ≤ b.cap ∧ Kids S w b.A b.k) : Els S w [a, b] := fun e he => by
  simp at he; rcases he with rfl | rfl
  · exact ha
  · exact hb
theorem els3 {S : Nat → Prop} {w : World} {a b c : El} (ha : a.k.len ≤ a.cap ∧ Kids S w a.A a.k) (hb : b.k.len ≤ b.cap ∧ Kids S w b.A b.k) (hc : c.k.len ≤ c.cap ∧ Kids S w c.A c.k) : Els S w [a, b, c] := fun e he => by
  simp at he; rcases he with rfl | rfl | rfl
  · exact ha
  · exact hb
  · exact hc
theorem lf_ok (S : Nat → Prop) (w : World) (h : Hd) : (lf h).k.len ≤ (lf h).cap ∧ Kids S w (lf h).A (lf h).k := ⟨Nat.le_refl _, .inl rfl⟩
theorem Blk.kids {S : Nat → Prop} {w : World} {B g : Nat} {l : List El} (h : Blk w B g l) (hS : S g) (he : Els S w l) : Kids S w (ad g) (fo l) := .inr ⟨g, 0, rfl, h.lies hS he⟩
theorem Smp.kidsR {w : World} {B g1 g2 g3 g4 g5 g6 g7 g8 g9 : Nat} (h : Smp w B g1 g2 g3 g4 g5 g6 g7 g8 g9) : Kids (Rng B w.heap.size) w (ad g9) fFile := by
  have k1 : Kids (Rng B w.heap.size) w (ad g1) fSum := h.b1.kids ⟨h.b1.2, h.b1.lt⟩ (els2 (lf_ok _ _ _) (lf_ok _ _ _))
  have k2 : Kids (Rng B w.heap.size) w (ad g2) fLess := h.b2.kids ⟨h.b2.2, h.b2.lt⟩ (els2 (lf_ok _ _ _) ⟨Nat.le_refl _, k1⟩)
  have k3 : Kids (Rng B w.heap.size) w (ad g3) fRet := h.b3.kids ⟨h.b3.2, h.b3.lt⟩ (els1 ⟨Nat.le_refl _, k2⟩)
  have k4 : Kids (Rng B w.heap.size) w (ad g4) fBlk := h.b4.kids ⟨h.b4.2, h.b4.lt⟩ (els1 ⟨Nat.le_refl _, k3⟩)
  have k5 : Kids (Rng B w.heap.size) w (ad g5) fFld := h.b5.kids ⟨h.b5.2, h.b5.lt⟩ (els1 (lf_ok _ _ _))
  have k6 : Kids (Rng B w.heap.size) w (ad g6) fPar := h.b6.kids ⟨h.b6.2, h.b6.lt⟩ (els1 ⟨Nat.le_refl _, k5⟩)
  have k7 : Kids (Rng B w.heap.size) w (ad g7) fFun := h.b7.kids ⟨h.b7.2, h.b7.lt⟩ (els3 ⟨Nat.le_refl _, k6⟩ (lf_ok _ _ _) ⟨Nat.le_refl _, k4⟩)
  have k8 : Kids (Rng B w.heap.size) w (ad g8) fVar := h.b8.kids ⟨h.b8.2, h.b8.lt⟩ (els2 (lf_ok _ _ _) (lf_ok _ _ _))
  exact h.b9.kids ⟨h.b9.2, h.b9.lt⟩ (els2 ⟨Nat.le_refl _, k8⟩ ⟨Nat.le_refl _, k7⟩)
theorem numIx_file : numIx hFile ∧ fFile.AllH numIx := by
  simp only [numIx, Fo.AllH, hx, maxLen]
  decide
theorem file_valid : validT nm hFile fFile = true := by
  have e : nm = fun s => M.nmB s.data.toList := funext fun s => M.nmS_eq s.data.toList
  rw [e]
  decide +kernel
def exText : List UInt8 := [118, 97, 114, 32, 120, 32, 105, 110, 116, 10, 102, 117, 110, 99, 32, 102, 40, 97, 32, 105, 110, 116, 41, 32, 98, 111, 111, 108, 32, 123, 10, 9, 114, 101, 116, 117, 114, 110, 32, 97, 32, 60, 32, 40, 120, 32, 43, 32, 49, 41, 10, 125, 10]
theorem file_text : printT nm hFile fFile = exText := by
  rw [show printT nm hFile fFile = fileS fFile from if_pos file_valid]
  decide +kernel
theorem file_cnt : fFile.cnt = 15 := rfl
theorem file_eq : eqT hFile fFile (bare hFile) fFile.strip = true := by decide +kernel
theorem eqIn_func_nil {P : Program} (w : World) (d : Nat) (t : TypeId) (f : Fn) (a b : Array Value) {ps rs : Array TypeId} {v : Bool} (h : P.underlying t = some (.func ps rs v)) : (Op.equalIn (d + 1) t (.func f a b) .nilFunc).run P w = .ok false w := by
  simp [Op.equalIn, run_underlying h]
theorem eq_func_nil {P : Program} (w : World) (t : TypeId) (f : Fn) (a b : Array Value) {ps rs : Array TypeId} {v : Bool} (h : P.underlying t = some (.func ps rs v)) : (Op.equal t (.func f a b) .nilFunc).run P w = .ok false w := eqIn_func_nil w 9999 t f a b h
theorem hnil1 (c : Value) (W : World) : Sem.run Tryz.prog (binOp BinOp.eql 41 (Value.func (Fn.func 40) #[] #[c]) Value.nilFunc) W = .ok (.bool false) W := by
  simp [binOp, go_sem, eq_func_nil W 41 _ _ _ Tryz.underlying41]
end Go.Proofs.YticbcnhbpbaocaaGreatDoor

namespace Go.Proofs.YticbcnhbpbaocaaGreatDoor
open Go.RowKit Go.Shelf T T.Fo
set_option linter.all false
attribute [local go_sem] Oper.semAt_some

theorem cell_bel {V w' : World} {b i : Nat} {v : Value} (h : V.cell? ⟨b, i, none⟩ = some v) (hb : Below V.heap.size V w') : w'.cell? ⟨b, i, none⟩ = some v :=
  (hb.cell (p := ⟨b, i, none⟩) (World.block_lt_of_cell? V _ h)).trans h
theorem froz_bel {V w' : World} {b i : Nat} {v : Value} (h : V.cell? ⟨b, i, none⟩ = some v) (hb : Below V.heap.size V w') : w'.frozen? ⟨b, i, none⟩ = V.frozen? ⟨b, i, none⟩ :=
  hb.frozen (p := ⟨b, i, none⟩) (World.block_lt_of_cell? V _ h)
theorem set_val {w : World} {b : Nat} {u x : Value} (h : (w.setCell ⟨b, 0, none⟩ u).cell? ⟨b, 0, none⟩ = some x) : x = u := by
  by_cases hc : (w.cell? ⟨b, 0, none⟩).isSome = true
  · rw [World.cell?_setCell_same' _ _ _ hc] at h; exact (Option.some.inj h).symm
  · exfalso
    apply hc
    simp only [World.cell?, World.setCell, Array.getElem?_modify] at h ⊢
    simp only [if_true] at h
    cases hb : w.heap[b]? with
    | none => rw [hb] at h; simp at h
    | some o =>
      rw [hb] at h
      cases o <;> simp_all
      exact Nat.lt_of_not_le fun hle => by rw [Array.getElem?_eq_none (by simpa using hle)] at h; cases h
/-- Blocks below W's size stand, apart from w's next block. -/
structure BX (w W w' : World) : Prop where
  b : Below w.heap.size w w'
  k : ∀ b, b < W.heap.size → b ≠ w.heap.size → w'.heap[b]? = W.heap[b]?
  z : W.heap.size ≤ w'.heap.size
theorem BX.below {w W V w' : World} (h : BX w W V) (hb : Below V.heap.size V w') (hw : w.heap.size ≤ W.heap.size) : BX w W w' :=
  ⟨h.b.trans (hb.mono (by have := h.z; omega)), fun b h1 h2 => (hb.block b (Nat.lt_of_lt_of_le h1 h.z)).trans (h.k b h1 h2), Nat.le_trans h.z hb.size⟩
theorem BX.set_ {w W V : World} (h : BX w W V) (u : Value) : BX w W (V.setCell ⟨w.heap.size, 0, none⟩ u) :=
  ⟨h.b.setCell (p := ⟨w.heap.size, 0, none⟩) (Nat.le_refl _) u, fun b h1 h2 => (Below.heap_setCell V ⟨w.heap.size, 0, none⟩ u b h2).trans (h.k b h1 h2), by rw [World.size_setCell]; exact h.z⟩
theorem BX.kids {w W V : World} {A : Option Addr} {F : Fo} (h : BX w W V) (hk : Kids (Rng (w.heap.size + 1) W.heap.size) W A F) : Kids (Lt V.heap.size) V A F :=
  hk.carry fun b hb => ⟨Nat.lt_of_lt_of_le hb.2 h.z, h.k b hb.2 (by have := hb.1; omega)⟩
def gB (br : Nat) (w : World) : Bool := match w.cell? ⟨br, 0, none⟩ with | some (.bool b) => b | _ => false
theorem gB_of {br : Nat} {w : World} {b : Bool} (h : w.cell? ⟨br, 0, none⟩ = some (.bool b)) : w.cell? ⟨br, 0, none⟩ = some (.bool (gB br w)) := by
  unfold gB; rw [h]
def AW (bn bf g9 : Nat) (w W w' : World) : Prop := w'.cell? ⟨bn, 0, none⟩ = some (.int .i64 16) ∧ w'.cell? ⟨bf, 0, none⟩ = some (.int .i64 hFile.kind) ∧ w'.cell? ⟨bf, 1, none⟩ = some (.string hFile.text) ∧ w'.cell? ⟨bf, 2, none⟩ = some (.int .i64 hFile.num) ∧ w'.cell? ⟨bf, 3, none⟩ = some (.int .i64 hFile.pos) ∧ w'.cell? ⟨bf, 4, none⟩ = some (.slice (ad g9) 2 2) ∧ w'.cell? ⟨bf, 5, none⟩ = some (.int .i64 hFile.tk) ∧ w'.cell? ⟨bf, 6, none⟩ = some (.string hFile.tn) ∧ w'.cell? ⟨bf, 7, none⟩ = some (.int .i64 hFile.ref) ∧ w'.cell? ⟨bf, 8, none⟩ = some (.int .i64 hFile.up) ∧ w'.cell? ⟨w.heap.size, 0, none⟩ = some (.bool (gB w.heap.size (w'))) ∧ w'.frozen? ⟨w.heap.size, 0, none⟩ = false ∧ BX w W w'
theorem AW.keep {bn bf g9 : Nat} {w W V w' : World} (h : AW bn bf g9 w W V) (hb : Below V.heap.size V w') (hw : w.heap.size ≤ W.heap.size) : w'.cell? ⟨bn, 0, none⟩ = some (.int .i64 16) ∧ w'.cell? ⟨bf, 0, none⟩ = some (.int .i64 hFile.kind) ∧ w'.cell? ⟨bf, 1, none⟩ = some (.string hFile.text) ∧ w'.cell? ⟨bf, 2, none⟩ = some (.int .i64 hFile.num) ∧ w'.cell? ⟨bf, 3, none⟩ = some (.int .i64 hFile.pos) ∧ w'.cell? ⟨bf, 4, none⟩ = some (.slice (ad g9) 2 2) ∧ w'.cell? ⟨bf, 5, none⟩ = some (.int .i64 hFile.tk) ∧ w'.cell? ⟨bf, 6, none⟩ = some (.string hFile.tn) ∧ w'.cell? ⟨bf, 7, none⟩ = some (.int .i64 hFile.ref) ∧ w'.cell? ⟨bf, 8, none⟩ = some (.int .i64 hFile.up) ∧ w'.cell? ⟨w.heap.size, 0, none⟩ = some (.bool (gB w.heap.size (w'))) ∧ w'.frozen? ⟨w.heap.size, 0, none⟩ = false ∧ BX w W w' := by
  obtain ⟨a, c0, c1, c2, c3, c4, c5, c6, c7, c8, r, z, b⟩ := h
  exact ⟨cell_bel a hb, cell_bel c0 hb, cell_bel c1 hb, cell_bel c2 hb, cell_bel c3 hb, cell_bel c4 hb, cell_bel c5 hb, cell_bel c6 hb, cell_bel c7 hb, cell_bel c8 hb, gB_of (cell_bel r hb), (froz_bel r hb).trans z, b.below hb hw⟩
theorem c_set {w : World} {b b' i j : Nat} {u v : Value} (hb : b ≠ b') (h : w.cell? ⟨b, i, none⟩ = some v) : (w.setCell ⟨b', j, none⟩ u).cell? ⟨b, i, none⟩ = some v := by
  simp only [World.cell?, World.setCell] at h ⊢
  rw [Array.getElem?_modify, if_neg (by simpa using Ne.symm hb)]
  exact h
theorem AW.set_ {bn bf g9 : Nat} {w W V : World} (h : AW bn bf g9 w W V) (h1 : bn ≠ w.heap.size) (h2 : bf ≠ w.heap.size) (u : Bool) : (V.setCell ⟨w.heap.size, 0, none⟩ (.bool u)).cell? ⟨bn, 0, none⟩ = some (.int .i64 16) ∧ (V.setCell ⟨w.heap.size, 0, none⟩ (.bool u)).cell? ⟨bf, 0, none⟩ = some (.int .i64 hFile.kind) ∧ (V.setCell ⟨w.heap.size, 0, none⟩ (.bool u)).cell? ⟨bf, 1, none⟩ = some (.string hFile.text) ∧ (V.setCell ⟨w.heap.size, 0, none⟩ (.bool u)).cell? ⟨bf, 2, none⟩ = some (.int .i64 hFile.num) ∧ (V.setCell ⟨w.heap.size, 0, none⟩ (.bool u)).cell? ⟨bf, 3, none⟩ = some (.int .i64 hFile.pos) ∧ (V.setCell ⟨w.heap.size, 0, none⟩ (.bool u)).cell? ⟨bf, 4, none⟩ = some (.slice (ad g9) 2 2) ∧ (V.setCell ⟨w.heap.size, 0, none⟩ (.bool u)).cell? ⟨bf, 5, none⟩ = some (.int .i64 hFile.tk) ∧ (V.setCell ⟨w.heap.size, 0, none⟩ (.bool u)).cell? ⟨bf, 6, none⟩ = some (.string hFile.tn) ∧ (V.setCell ⟨w.heap.size, 0, none⟩ (.bool u)).cell? ⟨bf, 7, none⟩ = some (.int .i64 hFile.ref) ∧ (V.setCell ⟨w.heap.size, 0, none⟩ (.bool u)).cell? ⟨bf, 8, none⟩ = some (.int .i64 hFile.up) ∧ (V.setCell ⟨w.heap.size, 0, none⟩ (.bool u)).cell? ⟨w.heap.size, 0, none⟩ = some (.bool (gB w.heap.size ((V.setCell ⟨w.heap.size, 0, none⟩ (.bool u))))) ∧ (V.setCell ⟨w.heap.size, 0, none⟩ (.bool u)).frozen? ⟨w.heap.size, 0, none⟩ = false ∧ BX w W (V.setCell ⟨w.heap.size, 0, none⟩ (.bool u)) := by
  obtain ⟨a, c0, c1, c2, c3, c4, c5, c6, c7, c8, r, z, b⟩ := h
  exact ⟨c_set h1 a, c_set h2 c0, c_set h2 c1, c_set h2 c2, c_set h2 c3, c_set h2 c4, c_set h2 c5, c_set h2 c6, c_set h2 c7, c_set h2 c8, gB_of (World.cell?_setCell_same' _ _ _ (by rw [r]; rfl)), by rw [World.frozen?_setCell]; exact z, b.set_ _⟩
theorem AW.start {bn bf g9 : Nat} {w W : World} (h : AW bn bf g9 w W W) : W.drew.cell? ⟨bn, 0, none⟩ = some (.int .i64 16) ∧ W.drew.cell? ⟨bf, 0, none⟩ = some (.int .i64 hFile.kind) ∧ W.drew.cell? ⟨bf, 1, none⟩ = some (.string hFile.text) ∧ W.drew.cell? ⟨bf, 2, none⟩ = some (.int .i64 hFile.num) ∧ W.drew.cell? ⟨bf, 3, none⟩ = some (.int .i64 hFile.pos) ∧ W.drew.cell? ⟨bf, 4, none⟩ = some (.slice (ad g9) 2 2) ∧ W.drew.cell? ⟨bf, 5, none⟩ = some (.int .i64 hFile.tk) ∧ W.drew.cell? ⟨bf, 6, none⟩ = some (.string hFile.tn) ∧ W.drew.cell? ⟨bf, 7, none⟩ = some (.int .i64 hFile.ref) ∧ W.drew.cell? ⟨bf, 8, none⟩ = some (.int .i64 hFile.up) ∧ W.drew.cell? ⟨w.heap.size, 0, none⟩ = some (.bool (gB w.heap.size (W.drew))) ∧ W.drew.frozen? ⟨w.heap.size, 0, none⟩ = false ∧ BX w W W.drew := by
  obtain ⟨a, c0, c1, c2, c3, c4, c5, c6, c7, c8, r, z, b⟩ := h
  exact ⟨a, c0, c1, c2, c3, c4, c5, c6, c7, c8, r, z, ⟨Below.drew b.b, b.k, b.z⟩⟩
set_option maxRecDepth 100000 in
set_option maxHeartbeats 8000000 in
theorem awake_in (w : World) (hG : Glob w) (hT : Tb w) (h16 : 5 ≤ w.heap.size) : CallsIn Fence.wide 9 Tryz.prog 10 #[] w fun e w' => e = .returned (.bool true) ∧ Below w.heap.size w w' := by
  have h1 : 1 ≤ 9 := by omega
  have hro : Fence.wide.round = none := rfl
  have HR0 := Lib.hid (heap_alloc_new w (.cells #[.bool false] 4))
  have HB0 : Hid (Below w.heap.size w (w.alloc (.cells #[.bool false] 4))) := Lib.hid ((Below.refl _ _).alloc (Nat.le_refl _) _)
  refine callsIn_of_wp_marks Tryz.func10 rfl trivial ?_ hro
  simp only [Tryz.ntmps10, List.size_toArray, List.length_cons, List.length_nil, Nat.reduceAdd, Nat.reduceSub, Array.replicate_succ, Array.replicate_zero, List.push_toArray, List.append_toArray, List.nil_append, List.cons_append]
  gi_wp2_with (refine ⟨trivial, ?_⟩; gi_at_call 18; refine ((callsIn_wide (n := 8)).2 (sample_any _)).mono ?_; rintro e w1 ⟨g1, g2, g3, g4, g5, g6, g7, g8, g9, rfl, hs, hb⟩; have HS := Lib.hid hs; have HB1 := Lib.hid hb; clear hs hb)
  have HK : Hid (∀ W, Below w1.heap.size w1 W → Kids (Lt W.heap.size) W (ad g9) fFile) := Lib.hid fun W hW => HS.out.kidsR.carry fun b hb => ⟨Nat.lt_of_lt_of_le hb.2 hW.size, hW.block b hb.2⟩
  have NF := Lib.hid (Nb.new w1 hFile (ad g9) 2 2)
  have NW := Lib.hid (Nb.new (w1.alloc (bx hFile (ad g9) 2 2)) hFile (ad g9) 2 2)
  have BW : Hid (Below w1.heap.size w1 ((w1.alloc (bx hFile (ad g9) 2 2)).alloc (bx hFile (ad g9) 2 2))) := Lib.hid (below2 w1 _ _)
  have hnl := fun W => hnil1 (.pointer (some ⟨w1.heap.size + 1, 0, none⟩)) W
  gi_wp2_with (first
    | (refine ⟨trivial, ?_⟩; gi_at_call 15; refine ((callsIn_wide (n := 8)).2 (scount_any hFile fFile (ad g9) 2 _ 16 (Nat.le_refl _) (HK.out _ BW.out) rfl (by decide))).mono ?_; rintro e w4 ⟨rfl, hb4⟩; have HB4 := Lib.hid hb4; clear hb4)
    | (refine ⟨trivial, ?_⟩; gi_at_call 27; refine (pre27_in Fence.wide 8 trivial rfl _ _ _ _ _).mono ?_; rintro e w' ⟨rfl, rfl⟩))
  have hz4 : w1.heap.size + 1 < w4.heap.size := by have := HB4.out.size; simp only [World.size_alloc] at this; omega
  have B14 : Hid (Below w1.heap.size w1 w4) := Lib.hid (BW.out.trans (HB4.out.mono (by simp only [World.size_alloc]; omega)))
  have HK4 := Lib.hid (HK.out w4 B14.out)
  have NF4 : Hid (Nb w4 w1.heap.size hFile (ad g9) 2 2) := Lib.hid ((NF.out.below ((Below.refl _ _).alloc (Nat.le_refl _) _)).below HB4.out)
  have NW4 : Hid (Nb w4 (w1.heap.size + 1) hFile (ad g9) 2 2) := by
    have := NW.out
    rw [World.size_alloc] at this
    exact Lib.hid (this.below HB4.out)
  have hbn : (w4.alloc (.cells #[.int .i64 0] 3)).heap[w1.heap.size + 1]? = some (.cells (nc hFile (ad g9) 2 2) 26 (0, 0)) := by
    rw [Below.heap_alloc _ _ _ hz4]; exact NW4.out
  have hsn := heap_alloc_new w4 (.cells #[.int .i64 0] 3)
  have hB0 : Below w4.heap.size w4 (w4.alloc (.cells #[.int .i64 0] 3)) := (Below.refl _ _).alloc (Nat.le_refl _) _
  have hz5 : (w4.alloc (.cells #[.int .i64 0] 3)).heap.size = w4.heap.size + 1 := by simp
  have hcell : (w4.alloc (.cells #[.int .i64 0] 3)).cell? ⟨w4.heap.size, 0, none⟩ = some (.int .i64 (([] : List (Al w4.heap.size w4)).length : Int)) := by
    simp only [World.cell?]; rw [hsn]; rfl
  have hfree : (w4.alloc (.cells #[.int .i64 0] 3)).frozen? ⟨w4.heap.size, 0, none⟩ = false := by
    simp only [World.frozen?]; rw [hsn]; rfl
  refine wpIn_rangeFunc_ownF hro h1 (gf := 40) (lb := #[.pointer (some ⟨w1.heap.size + 1, 0, none⟩)]) rfl trivial (enters_of Tryz.func40 (by kernel_rfl) rfl)
    (walk_stops Fence.wide rfl 8 trivial trivial hro w4.heap.size (w1.heap.size + 1) (fun b => b = w4.heap.size) w4 hFile fFile (ad g9) 2 _ (fun b hb => by rw [hz5]; omega) (by omega) (Nat.le_refl _) HK4.out (by decide) (fun b hb => hB0.block b hb) (by rw [hz5]; omega) hbn) (fun h k => h.trans k) (fun W l o o' hl ho hc _ => KC.putObj W l o o' (by rw [hz5] at hl; omega) ho hc) (Below.refl _ _) (fun _ => rfl)
    (fun pre W => (W.cell? ⟨w4.heap.size, 0, none⟩ = some (.int .i64 (pre.length : Int)) ∧ W.frozen? ⟨w4.heap.size, 0, none⟩ = false) ∧ Below w4.heap.size w4 W)
    (fun _ _ _ => False)
    (OwnFrom.and (Own.from (fun s A B row hs hg hr => ⟨cell_kept hs.1 hg hr, (frozen_kept hs.1 hg hr).trans hs.2⟩) _) (ownFrom_below (Nat.le_refl _) (by simp)))
    (fun _ _ _ _ _ hs _ _ => hs)
    ⟨⟨hcell, hfree⟩, hB0⟩
    (fun x => { tmps := #[.pointer (some ⟨w.heap.size, 0, none⟩), .pointer (some ⟨w1.heap.size, 0, none⟩), .func (.func 40) #[] #[.pointer (some ⟨w1.heap.size + 1, 0, none⟩)], .pointer (some ⟨w4.heap.size, 0, none⟩), nv hFile (ad g9) 2 2, nv hFile (ad g9) 2 2, .func (.func 40) #[] #[.pointer (some ⟨w1.heap.size + 1, 0, none⟩)], .func (.func 40) #[] #[.pointer (some ⟨w1.heap.size + 1, 0, none⟩)], .bool false, .bool false, nv hFile (ad g9) 2 2, .int .i64 16, .bool false, .bool false, .func (.func 40) #[] #[.pointer (some ⟨w1.heap.size + 1, 0, none⟩)], nv x.1.h x.1.A x.1.k.len x.1.cap, undef, undef, undef, undef, undef, undef, undef, undef, undef, undef, undef, undef, undef, undef, undef, undef, undef, undef, undef, undef, undef, undef, undef, undef, undef, undef], defers := [] }) ?assign ?body ?done ?stop
  case assign =>
    intro l x W K hK
    dsimp only [enc1]
    gi_wp2
    simpa using hK
  case body =>
    rintro l pre x W ⟨⟨hc, hf⟩, hB⟩ hlt
    have hlt2 : pre.length < 16 := hlt
    have hb9 : pre.length + 1 ≤ 20 := by omega
    have hb0 : ¬ (20 : Int) < (pre.length : Int) + 1 := by omega
    clear hsn hB0 hz5 hcell hfree hbn
    gi_wp2
    exact ⟨KeepsOthers.setCell _ _ _, (KC.refl w4.heap.size (fun b => b = w4.heap.size) W).set_ (p := ⟨w4.heap.size, 0, none⟩) rfl (Nat.le_refl _) _, ⟨by rw [World.cell?_setCell_same' _ _ _ (by rw [hc]; rfl)]; simp, by rw [World.frozen?_setCell]; exact hf⟩, hB.setCell (p := ⟨w4.heap.size, 0, none⟩) (by simp) _⟩
  case done =>
    rintro D ys W hD hys ⟨⟨hc, _⟩, hB⟩ hK
    have hyl : ys.length = 16 := by have := congrArg List.length hys; simpa [hks, preT_len, file_cnt] using this
    rw [hyl] at hc
    clear hsn hB0 hcell hfree hys hyl
    gi_wp2
    refine wpIn_wide.2 ?_
    obtain ⟨f0, f1, f2, f3, f4, f5, f6, f7, f8⟩ := (NF4.out.below hB).cells
    have hw1 : w.heap.size < w1.heap.size := by have := HB1.out.size; simp only [World.size_alloc] at this; omega
    have hr1 : w1.cell? ⟨w.heap.size, 0, none⟩ = some (.bool false) ∧ w1.frozen? ⟨w.heap.size, 0, none⟩ = false := by
      have e := (HB1.out.block w.heap.size (by simp)).trans HR0.out
      constructor
      · simp [World.cell?, e]
      · simp [World.frozen?, e]
    have hrW : Below w1.heap.size w1 W := B14.out.trans (hB.mono (by omega))
    have hB0w : Below w.heap.size w W := ((HB0.out.trans (HB1.out.mono (by simp))).trans (hrW.mono (by omega)))
    have hzW : w.heap.size < w1.heap.size ∧ w1.heap.size < w4.heap.size ∧ w.heap.size ≤ W.heap.size := ⟨hw1, by omega, hB0w.size⟩
    have HSW : Hid (AW w4.heap.size w1.heap.size g9 w W W) := Lib.hid ⟨hc, f0, f1, f2, f3, f4, f5, f6, f7, f8, gB_of (cell_bel hr1.1 hrW), (froz_bel hr1.1 hrW).trans hr1.2, ⟨hB0w, fun _ _ _ => rfl, Nat.le_refl _⟩⟩
    have hkR : Kids (Rng (w.heap.size + 1) W.heap.size) W (ad g9) fFile := HS.out.kidsR.carry fun b hb => ⟨⟨by have := hb.1; simpa using this, Nat.lt_of_lt_of_le hb.2 hrW.size⟩, hrW.block b hb.2⟩
    have HV : Hid (∀ V, BX w W V → Calls Tryz.prog 13 #[nv hFile (ad g9) 2 2] V fun e w' => e = .returned (.bool true) ∧ Below V.heap.size V w') := Lib.hid fun V hV => (valid_any hFile fFile (ad g9) 2 V (glob_below hG hV.b) (hV.kids hkR) numIx_file.1 numIx_file.2 (by decide)).mono fun e w' hq => ⟨by rw [hq.1, file_valid], hq.2⟩
    have HC : Hid (∀ V, BX w W V → Calls Tryz.prog 15 #[nv hFile (ad g9) 2 2] V fun e w' => e = .returned (.int .i64 16) ∧ Below V.heap.size V w') := Lib.hid fun V hV => scount_any hFile fFile (ad g9) 2 V 16 (Nat.le_refl _) (hV.kids hkR) rfl (by decide)
    have HTT : Hid (∀ V, BX w W V → Calls Tryz.prog 21 #[nv hFile (ad g9) 2 2] V fun e w' => ∃ A c, e = .returned (nv (bare hFile) A 2 c) ∧ Kids (Lt w'.heap.size) w' A fFile.strip ∧ Below V.heap.size V w') := Lib.hid fun V hV => (strip_any hFile fFile (ad g9) 2 V (hV.kids hkR) (by decide)).mono fun e w' hq => by
      obtain ⟨A, c, he, _, hk, hb⟩ := hq
      exact ⟨A, c, he, hk.carry fun b hb' => ⟨hb'.2, rfl⟩, hb⟩
    have HE : Hid (∀ V A c, BX w W V → Kids (Lt V.heap.size) V A fFile.strip → Calls Tryz.prog 19 #[nv hFile (ad g9) 2 2, nv (bare hFile) A 2 c] V fun e w' => e = .returned (.bool true) ∧ Below V.heap.size V w') := Lib.hid fun V A c hV hk => (sequal_any hFile fFile (bare hFile) fFile.strip (ad g9) A 2 c V (hV.kids hkR) hk (by decide) (by decide)).mono fun e w' hq => ⟨by rw [hq.1, file_eq], hq.2⟩
    have HP : Hid (∀ V, BX w W V → Calls Tryz.prog 23 #[nv hFile (ad g9) 2 2] V fun e w' => e = .returned (.string ⟨exText.toArray⟩) ∧ Below V.heap.size V w') := Lib.hid fun V hV => (print_any hFile fFile (ad g9) 2 V (glob_below hG hV.b) (hT.below hV.b h16) (by have := hV.b.size; omega) (Nat.le_refl _) (hV.kids hkR) numIx_file.1 numIx_file.2 (by decide)).mono fun e w' hq => ⟨by rw [hq.1, file_text], hq.2⟩
    clear hrW hr1 hB hc f0 f1 f2 f3 f4 f5 f6 f7 f8 hnl hB0w hkR
    unfold exText at HP
    go_region_held3 (fun w' => w'.cell? ⟨w4.heap.size, 0, none⟩ = some (.int .i64 16) ∧ w'.cell? ⟨w1.heap.size, 0, none⟩ = some (.int .i64 hFile.kind) ∧ w'.cell? ⟨w1.heap.size, 1, none⟩ = some (.string hFile.text) ∧ w'.cell? ⟨w1.heap.size, 2, none⟩ = some (.int .i64 hFile.num) ∧ w'.cell? ⟨w1.heap.size, 3, none⟩ = some (.int .i64 hFile.pos) ∧ w'.cell? ⟨w1.heap.size, 4, none⟩ = some (.slice (ad g9) 2 2) ∧ w'.cell? ⟨w1.heap.size, 5, none⟩ = some (.int .i64 hFile.tk) ∧ w'.cell? ⟨w1.heap.size, 6, none⟩ = some (.string hFile.tn) ∧ w'.cell? ⟨w1.heap.size, 7, none⟩ = some (.int .i64 hFile.ref) ∧ w'.cell? ⟨w1.heap.size, 8, none⟩ = some (.int .i64 hFile.up) ∧ w'.cell? ⟨w.heap.size, 0, none⟩ = some (.bool (gB w.heap.size (w'))) ∧ w'.frozen? ⟨w.heap.size, 0, none⟩ = false ∧ BX w W w')
      (first
        | exact HSW.out.start
        | exact AW.keep (by assumption) hb hzW.2.2
        | exact AW.set_ (by assumption) (by omega) (by omega) _)
      (first
        | (go_at_call 13; refine (HV.out _ ?_).mono ?_; (go_split_ands; assumption); rintro e w' ⟨rfl, hb⟩)
        | (go_at_call 15; refine (HC.out _ ?_).mono ?_; (go_split_ands; assumption); rintro e w' ⟨rfl, hb⟩)
        | (go_at_call 21; refine (HTT.out _ ?_).mono ?_; (go_split_ands; assumption); rintro e w' ⟨A, c, rfl, hks, hb⟩)
        | (go_at_call 19; refine (HE.out _ _ _ ?_ hks).mono ?_; (go_split_ands; assumption); rintro e w' ⟨rfl, hb⟩)
        | (go_at_call 23; refine (HP.out _ ?_).mono ?_; (go_split_ands; assumption); rintro e w' ⟨rfl, hb⟩))
    have hBX : BX w W (w'.setCell ⟨w.heap.size, 0, none⟩ (.bool true)) := by go_split_ands; assumption
    have hR0 : (w'.setCell ⟨w.heap.size, 0, none⟩ (.bool true)).cell? ⟨w.heap.size, 0, none⟩ = some (.bool (gB w.heap.size (w'.setCell ⟨w.heap.size, 0, none⟩ (.bool true)))) := by go_split_ands; assumption
    have hRC : (w'.setCell ⟨w.heap.size, 0, none⟩ (.bool true)).cell? ⟨w.heap.size, 0, none⟩ = some (.bool true) := by have e := set_val hR0; rw [e] at hR0; exact hR0
    clear hR0
    gi_wp2
    have hKK := (hBX.k D (Array.getElem?_eq_some_iff.1 hK).1 (by rw [hz5] at hD; omega)).trans hK
    refine ⟨by simp, .inl ⟨_, _, rfl, run_takeDeferred hKK, ?_⟩⟩
    have hcc := cell_kept hRC (grownBy_putObj' (w'.setCell ⟨w.heap.size, 0, none⟩ (.bool true)) D (.deferred none)) (fun r e => by cases e; exact ⟨_, hKK, rfl⟩)
    exact ⟨.bool true, by simp [results, Tryz.results10, go_sem, hcc], rfl, hBX.b.trans (belowK_b (w := w) (Nat.le_refl _) _ D _ _ (by rw [hz5] at hD; omega) hKK rfl rfl)⟩
  case stop =>
    rintro D c pre W _ _ h _
    exact h.elim
end Go.Proofs.YticbcnhbpbaocaaGreatDoor
