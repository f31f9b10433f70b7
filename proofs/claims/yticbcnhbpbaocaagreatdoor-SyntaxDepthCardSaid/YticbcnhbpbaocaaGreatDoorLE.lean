/-
  The walk of the law SyntaxDepth.
-/
import Derived.Test.YticbcnhbpbaocaaGreatDoorLD
set_option linter.all false
namespace Go.Proofs.YticbcnhbpbaocaaGreatDoor
open Go.RowKit T T.Fo

/-- The box of nested blocks. -/
def Lb (w1 : World) (i : Nat) (A : Option Addr) (c : Nat) (wr : World) : Prop :=
  wr.heap[w1.heap.size]? = some (.cells (nc hBlk A (nest i).len c) 26 (0, 0)) ∧ (nest i).len ≤ c ∧ Kids (Rng (w1.heap.size + 1) wr.heap.size) wr A (nest i) ∧ Below w1.heap.size w1 wr ∧ w1.heap.size < wr.heap.size
theorem Lb.start (w1 : World) : Lb w1 0 none 0 (w1.alloc (.cells #[.int .i64 10, .string ⟨#[]⟩, .int .i64 0, .int .i64 0, .slice none 0 0, .int .i64 0, .string ⟨#[]⟩, .int .i64 0, .int .i64 0] 26)) :=
  ⟨heap_alloc_new w1 _, Nat.le_refl _, .inl rfl, (Below.refl _ _).alloc (Nat.le_refl _) _, by simp⟩
theorem Lb.cells {w1 wr : World} {i c : Nat} {A : Option Addr} (h : Lb w1 i A c wr) : Nb wr w1.heap.size hBlk A (nest i).len c := h.1
theorem Lb.step {w1 wr W : World} {i c : Nat} {A : Option Addr} (h : Lb w1 i A c wr) (e : (((((((((wr.setCell ⟨w1.heap.size, 0, none⟩ (.int .i64 10)).setCell ⟨w1.heap.size, 1, none⟩ (.string ⟨#[]⟩)).setCell ⟨w1.heap.size, 2, none⟩ (.int .i64 0)).setCell ⟨w1.heap.size, 3, none⟩ (.int .i64 0)).setCell ⟨w1.heap.size, 4, none⟩ (.slice (some ⟨wr.heap.size, 0, none⟩) 1 1)).setCell ⟨w1.heap.size, 5, none⟩ (.int .i64 0)).setCell ⟨w1.heap.size, 6, none⟩ (.string ⟨#[]⟩)).setCell ⟨w1.heap.size, 7, none⟩ (.int .i64 0)).setCell ⟨w1.heap.size, 8, none⟩ (.int .i64 0)) = W) (cs : Array Value) (hcs : cs = nc hBlk A (nest i).len c) :
    Lb w1 (i + 1) (some ⟨wr.heap.size, 0, none⟩) 1 (W.alloc (.cells cs 26)) := by
  subst hcs
  have hz : W.heap.size = wr.heap.size := nine_sz e
  have h0 : wr.heap[w1.heap.size]? = some (.cells (nc hBlk A (nest i).len c) 26 (0, 0)) := h.1
  have hk : ∀ x, x ≠ w1.heap.size → W.heap[x]? = wr.heap[x]? := (nine w1 wr w1.heap.size _ _ _ _ _ _ _ _ _ e.symm).1
  have hq : W.heap[w1.heap.size]? = some (.cells (nc hBlk (some ⟨wr.heap.size, 0, none⟩) 1 1) 26 (0, 0)) := by
    subst e
    simp [World.setCell, Array.getElem?_modify, h0, hx]
  have hl := h.2.2.2.2
  have hne : ∀ x, x < W.heap.size → (W.alloc (.cells (nc hBlk A (nest i).len c) 26)).heap[x]? = W.heap[x]? := fun x hx => Below.heap_alloc _ _ _ hx
  refine ⟨(hne _ (by omega)).trans hq, Nat.le_refl _, ?_, ((nine w1 wr w1.heap.size _ _ _ _ _ _ _ _ _ e.symm).2.2 h.2.2.2.1 (Nat.le_refl _)).alloc (by omega) _, by simp only [World.size_alloc]; omega⟩
  have hnew := heap_alloc_new W (.cells (nc hBlk A (nest i).len c) 26)
  rw [hz] at hnew
  have hkk : Kids (Rng (w1.heap.size + 1) (W.alloc (.cells (nc hBlk A (nest i).len c) 26)).heap.size) (W.alloc (.cells (nc hBlk A (nest i).len c) 26)) A (nest i) :=
    h.2.2.1.carry fun b hb => ⟨⟨hb.1, by simp only [World.size_alloc]; omega⟩, (hne b (by omega)).trans (hk b (by omega))⟩
  have hb : Blk (W.alloc (.cells (nc hBlk A (nest i).len c) 26)) (w1.heap.size + 1) wr.heap.size [⟨hBlk, nest i, A, c⟩] := ⟨hnew, by omega⟩
  exact hb.kids ⟨by omega, by simp only [World.size_alloc]; omega⟩ (els1 ⟨h.2.1, hkk⟩)

theorem blk_ne {w : World} {B g g' : Nat} {l l' : List El} (h : Blk w B g l) (h' : Blk w B g' l') (hl : l.length ≠ l'.length) : g ≠ g' := by
  intro e
  subst e
  have e1 := h.1.symm.trans h'.1
  simp only [Option.some.injEq, Obj.cells.injEq] at e1
  have := congrArg Array.size e1.1
  simp only [List.size_toArray, ecells_len] at this
  omega
theorem Blk.at_ {w V : World} {B g x : Nat} {l : List El} (h : Blk w B g l) (hx : g ≠ x) (hV : ∀ b, b ≠ x → V.heap[b]? = w.heap[b]?) : Blk V B g l := ⟨(hV g hx).trans h.1, h.2⟩
theorem set9_at {W V : World} {g : Nat} {a0 a1 a2 a3 a4 a5 a6 a7 a8 a9 a10 a11 a12 a13 a14 a15 a16 a17 a18 a19 a20 a21 a22 a23 a24 a25 a26 v0 v1 v2 v3 v4 v5 v6 v7 v8 : Value} (h : W.heap[g]? = some (.cells #[a0, a1, a2, a3, a4, a5, a6, a7, a8, a9, a10, a11, a12, a13, a14, a15, a16, a17, a18, a19, a20, a21, a22, a23, a24, a25, a26] 26 (0, 0)))
    (e : (((((((((W.setCell ⟨g, 18, none⟩ (v0)).setCell ⟨g, 19, none⟩ (v1)).setCell ⟨g, 20, none⟩ (v2)).setCell ⟨g, 21, none⟩ (v3)).setCell ⟨g, 22, none⟩ (v4)).setCell ⟨g, 23, none⟩ (v5)).setCell ⟨g, 24, none⟩ (v6)).setCell ⟨g, 25, none⟩ (v7)).setCell ⟨g, 26, none⟩ (v8)) = V) : V.heap[g]? = some (.cells #[a0, a1, a2, a3, a4, a5, a6, a7, a8, a9, a10, a11, a12, a13, a14, a15, a16, a17, v0, v1, v2, v3, v4, v5, v6, v7, v8] 26 (0, 0)) := by
  subst e
  simp [World.setCell, Array.getElem?_modify, h]
/-- The example's function has another body now. -/
theorem smp_dep {W V : World} {B g1 g2 g3 g4 g5 g6 g7 g8 g9 i c : Nat} {A : Option Addr} (S : Smp W B g1 g2 g3 g4 g5 g6 g7 g8 g9) (hc : (nest i).len ≤ c) (hk : Kids (Lt B) W A (nest i))
    (e : (((((((((W.setCell ⟨g7, 18, none⟩ (.int .i64 hBlk.kind)).setCell ⟨g7, 19, none⟩ (.string hBlk.text)).setCell ⟨g7, 20, none⟩ (.int .i64 hBlk.num)).setCell ⟨g7, 21, none⟩ (.int .i64 hBlk.pos)).setCell ⟨g7, 22, none⟩ (.slice A (nest i).len c)).setCell ⟨g7, 23, none⟩ (.int .i64 hBlk.tk)).setCell ⟨g7, 24, none⟩ (.string hBlk.tn)).setCell ⟨g7, 25, none⟩ (.int .i64 hBlk.ref)).setCell ⟨g7, 26, none⟩ (.int .i64 hBlk.up)) = V) : Kids (Lt V.heap.size) V (ad g9) (fFileN i) ∧ V.heap.size = W.heap.size := by
  have hz : V.heap.size = W.heap.size := by subst e; simp only [World.size_setCell]
  have hV : ∀ b, b ≠ g7 → V.heap[b]? = W.heap[b]? := by
    intro b hb
    subst e
    simp only [World.setCell, Array.getElem?_modify]
    rw [if_neg (Ne.symm hb)]
    iterate 8 rw [if_neg (Ne.symm hb)]
  have h7 := S.b7.1
  have h7' : Blk V B g7 [⟨hPar, fPar, ad g6, 1⟩, lf hBool, ⟨hBlk, nest i, A, c⟩] := by
    exact ⟨set9_at h7 e, S.b7.2⟩
  have n5 := blk_ne S.b5 S.b7 (by simp)
  have n6 := blk_ne S.b6 S.b7 (by simp)
  have n8 := blk_ne S.b8 S.b7 (by simp)
  have n9 := blk_ne S.b9 S.b7 (by simp)
  have b5 := S.b5.at_ n5 hV
  have b6 := S.b6.at_ n6 hV
  have b8 := S.b8.at_ n8 hV
  have b9 : Blk V B g9 [⟨hVar, fVar, ad g8, 2⟩, ⟨hFun, fFunN i, ad g7, 3⟩] := S.b9.at_ n9 hV
  have kn : Kids (Lt V.heap.size) V A (nest i) := hk.carry fun b hb => ⟨by have := S.b7.2; have := S.b7.lt; show b < _; have : b < B := hb; omega, hV b (by have := S.b7.2; have : b < B := hb; omega)⟩
  have k5 : Kids (Lt V.heap.size) V (ad g5) fFld := b5.kids b5.lt (els1 (lf_ok _ _ _))
  have k6 : Kids (Lt V.heap.size) V (ad g6) fPar := b6.kids b6.lt (els1 ⟨Nat.le_refl _, k5⟩)
  have k7 : Kids (Lt V.heap.size) V (ad g7) (fFunN i) := h7'.kids h7'.lt (els3 ⟨Nat.le_refl _, k6⟩ (lf_ok _ _ _) ⟨hc, kn⟩)
  have k8 : Kids (Lt V.heap.size) V (ad g8) fVar := b8.kids b8.lt (els2 (lf_ok _ _ _) (lf_ok _ _ _))
  exact ⟨b9.kids b9.lt (els2 ⟨Nat.le_refl _, k8⟩ ⟨Nat.le_refl _, k7⟩), hz⟩
theorem Smp.below {w V : World} {B g1 g2 g3 g4 g5 g6 g7 g8 g9 : Nat} (S : Smp w B g1 g2 g3 g4 g5 g6 g7 g8 g9) (hb : Below w.heap.size w V) : Smp V B g1 g2 g3 g4 g5 g6 g7 g8 g9 :=
  ⟨S.b1.below hb, S.b2.below hb, S.b3.below hb, S.b4.below hb, S.b5.below hb, S.b6.below hb, S.b7.below hb, S.b8.below hb, S.b9.below hb⟩
theorem nine_below {w W V : World} {b o : Nat} {v0 v1 v2 v3 v4 v5 v6 v7 v8 : Value} (h : Below w.heap.size w W) (hb : w.heap.size ≤ b) (e : (((((((((W.setCell ⟨b, o, none⟩ v0).setCell ⟨b, o + 1, none⟩ v1).setCell ⟨b, o + 2, none⟩ v2).setCell ⟨b, o + 3, none⟩ v3).setCell ⟨b, o + 4, none⟩ v4).setCell ⟨b, o + 5, none⟩ v5).setCell ⟨b, o + 6, none⟩ v6).setCell ⟨b, o + 7, none⟩ v7).setCell ⟨b, o + 8, none⟩ v8) = V) : Below w.heap.size w V := by
  subst e
  exact ((((((((h.setCell hb _).setCell hb _).setCell hb _).setCell hb _).setCell hb _).setCell hb _).setCell hb _).setCell hb _).setCell hb _

set_option maxRecDepth 100000 in
set_option maxHeartbeats 8000000 in
theorem depth_law (m : Nat) (hm : m ≤ 255) (w : World) (hG : Glob w) (hT : Tb w) (h5 : 5 ≤ w.heap.size) : Calls Tryz.prog 4 #[.int .u8 (m : Int)] w fun e w' => e = .returned (.bool true) ∧ Below w.heap.size w w' := by
  obtain ⟨n, hn⟩ : ∃ n : Nat, (m : Int) % 64 = (n : Int) := ⟨m % 64, by omega⟩
  have hn63 : n ≤ 63 := by omega
  have hm0 : (0 : Int) ≤ (m : Int) := by omega
  have hm1 : (m : Int) ≤ 255 := by omega
  have HAW := Lib.hid (awake_any w hG hT h5)
  have HG := Lib.hid hG
  clear hG hT h5
  go_enter Tryz.func4, Tryz.ntmps4
  go_wp2_with (go_at_call 10; refine HAW.out.mono ?_; rintro e w1 ⟨rfl, hb1⟩; have B1 := Lib.hid hb1; clear hb1)
  have evv : ∀ b : Bool, (b == b) = true := fun b => by simp
  go_loopw [5] (fun ix wr => ∃ (i : Nat) (A : Option Addr) (c : Nat), ix = .int .i64 (i : Int) ∧ i ≤ n ∧ Lb w1 i A c wr) (fun ix _ => n - (intOf ix).toNat)
  case atStart => exact ⟨0, none, 0, rfl, Nat.zero_le _, Lb.start w1⟩
  case round =>
    obtain ⟨i, A, c, rfl, hi, hl⟩ := hrel
    have HL := Lib.hid hl
    have hq := hl.1
    have hqz := hl.2.2.2.2
    obtain ⟨c0, c1, c2, c3, c4, c5, c6, c7, c8⟩ := hl.cells.cells
    have f0 : wr.frozen? ⟨w1.heap.size, 0, none⟩ = false := by simp [World.frozen?, hq]
    have f1 : wr.frozen? ⟨w1.heap.size, 1, none⟩ = false := by simp [World.frozen?, hq]
    have f2 : wr.frozen? ⟨w1.heap.size, 2, none⟩ = false := by simp [World.frozen?, hq]
    have f3 : wr.frozen? ⟨w1.heap.size, 3, none⟩ = false := by simp [World.frozen?, hq]
    have f4 : wr.frozen? ⟨w1.heap.size, 4, none⟩ = false := by simp [World.frozen?, hq]
    have f5 : wr.frozen? ⟨w1.heap.size, 5, none⟩ = false := by simp [World.frozen?, hq]
    have f6 : wr.frozen? ⟨w1.heap.size, 6, none⟩ = false := by simp [World.frozen?, hq]
    have f7 : wr.frozen? ⟨w1.heap.size, 7, none⟩ = false := by simp [World.frozen?, hq]
    have f8 : wr.frozen? ⟨w1.heap.size, 8, none⟩ = false := by simp [World.frozen?, hq]
    clear hl hq
    by_cases hlt : i < n
    · have hi1 : (i : Int) < (n : Int) := by omega
      have hi2 : (i : Int) ≤ 63 := by omega
      go_wp2
      go_roundw
      case rel => exact ⟨i + 1, some ⟨wr.heap.size, 0, none⟩, 1, by go_num, by omega, Lb.step HL.out rfl _ rfl⟩
      case measure => simp [intOf]; omega
    · obtain rfl : i = n := by omega
      have hi1 : ¬ (i : Int) < (i : Int) := by omega
      clear f0 f1 f2 f3 f4 f5 f6 f7 f8 c0 c1 c2 c3 c4 c5 c6 c7 c8
      go_wp2_with (go_at_call 18; refine (sample_any _).mono ?_; rintro e w2 ⟨g1, g2, g3, g4, g5, g6, g7, g8, g9, rfl, hs, hb2⟩; have HS := Lib.hid hs; have HB2 := Lib.hid hb2; clear hs hb2)
      have B3 : Below w2.heap.size w2 (w2.alloc (bx hFile (ad g9) 2 2)) := (Below.refl _ _).alloc (Nat.le_refl _) _
      have S3 := HS.out.below B3
      have NF := Nb.new w2 hFile (ad g9) 2 2
      have hzr : wr.heap.size ≤ w2.heap.size := HB2.out.size
      have hlt7 : g7 < w2.heap.size := HS.out.b7.lt
      have hge7 : wr.heap.size ≤ g7 := HS.out.b7.2
      have hlt9 : g9 < w2.heap.size := HS.out.b9.lt
      have hge9 : wr.heap.size ≤ g9 := HS.out.b9.2
      have hne97 : g9 ≠ g7 := blk_ne HS.out.b9 HS.out.b7 (by simp)
      have NQ : Nb (w2.alloc (bx hFile (ad g9) 2 2)) w1.heap.size hBlk A (nest i).len c := (HL.out.cells.below HB2.out).below B3
      have BW3 : Below w.heap.size w (w2.alloc (bx hFile (ad g9) 2 2)) := ((B1.out.trans (HL.out.2.2.2.1.mono B1.out.size)).trans (HB2.out.mono (by have := B1.out.size; omega))).trans (B3.mono (by have := B1.out.size; omega))
      have KQ : Kids (Lt wr.heap.size) (w2.alloc (bx hFile (ad g9) 2 2)) A (nest i) := HL.out.2.2.1.carry fun b hb => ⟨hb.2, (B3.block b (Nat.lt_of_lt_of_le hb.2 hzr)).trans (HB2.out.block b hb.2)⟩
      have hzw : w2.heap.size < (w2.alloc (bx hFile (ad g9) 2 2)).heap.size := by simp
      obtain ⟨x0, x1, x2, x3, x4, x5, x6, x7, x8⟩ := NF.cells
      obtain ⟨q0, q1, q2, q3, q4, q5, q6, q7, q8⟩ := NQ.cells
      have y9 : (w2.alloc (bx hFile (ad g9) 2 2)).cell? ⟨g9, 13, none⟩ = some (.slice (ad g7) 3 3) := by have := S3.b9.cell 13 _ rfl; rw [Nat.zero_add] at this; exact this
      have e7 := S3.b7.1
      have z0 : (w2.alloc (bx hFile (ad g9) 2 2)).cell? ⟨g7, 18, none⟩ = some (.int .i64 hBlk.kind) := by have := S3.b7.cell 18 _ rfl; rw [Nat.zero_add] at this; exact this
      have o0 : (w2.alloc (bx hFile (ad g9) 2 2)).frozen? ⟨g7, 18, none⟩ = false := by simp [World.frozen?, e7]
      have z1 : (w2.alloc (bx hFile (ad g9) 2 2)).cell? ⟨g7, 19, none⟩ = some (.string hBlk.text) := by have := S3.b7.cell 19 _ rfl; rw [Nat.zero_add] at this; exact this
      have o1 : (w2.alloc (bx hFile (ad g9) 2 2)).frozen? ⟨g7, 19, none⟩ = false := by simp [World.frozen?, e7]
      have z2 : (w2.alloc (bx hFile (ad g9) 2 2)).cell? ⟨g7, 20, none⟩ = some (.int .i64 hBlk.num) := by have := S3.b7.cell 20 _ rfl; rw [Nat.zero_add] at this; exact this
      have o2 : (w2.alloc (bx hFile (ad g9) 2 2)).frozen? ⟨g7, 20, none⟩ = false := by simp [World.frozen?, e7]
      have z3 : (w2.alloc (bx hFile (ad g9) 2 2)).cell? ⟨g7, 21, none⟩ = some (.int .i64 hBlk.pos) := by have := S3.b7.cell 21 _ rfl; rw [Nat.zero_add] at this; exact this
      have o3 : (w2.alloc (bx hFile (ad g9) 2 2)).frozen? ⟨g7, 21, none⟩ = false := by simp [World.frozen?, e7]
      have z4 : (w2.alloc (bx hFile (ad g9) 2 2)).cell? ⟨g7, 22, none⟩ = some (.slice (ad g4) 1 1) := by have := S3.b7.cell 22 _ rfl; rw [Nat.zero_add] at this; exact this
      have o4 : (w2.alloc (bx hFile (ad g9) 2 2)).frozen? ⟨g7, 22, none⟩ = false := by simp [World.frozen?, e7]
      have z5 : (w2.alloc (bx hFile (ad g9) 2 2)).cell? ⟨g7, 23, none⟩ = some (.int .i64 hBlk.tk) := by have := S3.b7.cell 23 _ rfl; rw [Nat.zero_add] at this; exact this
      have o5 : (w2.alloc (bx hFile (ad g9) 2 2)).frozen? ⟨g7, 23, none⟩ = false := by simp [World.frozen?, e7]
      have z6 : (w2.alloc (bx hFile (ad g9) 2 2)).cell? ⟨g7, 24, none⟩ = some (.string hBlk.tn) := by have := S3.b7.cell 24 _ rfl; rw [Nat.zero_add] at this; exact this
      have o6 : (w2.alloc (bx hFile (ad g9) 2 2)).frozen? ⟨g7, 24, none⟩ = false := by simp [World.frozen?, e7]
      have z7 : (w2.alloc (bx hFile (ad g9) 2 2)).cell? ⟨g7, 25, none⟩ = some (.int .i64 hBlk.ref) := by have := S3.b7.cell 25 _ rfl; rw [Nat.zero_add] at this; exact this
      have o7 : (w2.alloc (bx hFile (ad g9) 2 2)).frozen? ⟨g7, 25, none⟩ = false := by simp [World.frozen?, e7]
      have z8 : (w2.alloc (bx hFile (ad g9) 2 2)).cell? ⟨g7, 26, none⟩ = some (.int .i64 hBlk.up) := by have := S3.b7.cell 26 _ rfl; rw [Nat.zero_add] at this; exact this
      have o8 : (w2.alloc (bx hFile (ad g9) 2 2)).frozen? ⟨g7, 26, none⟩ = false := by simp [World.frozen?, e7]
      have HV : Hid (∀ W3 V, w2.alloc (bx hFile (ad g9) 2 2) = W3 → (((((((((W3.setCell ⟨g7, 18, none⟩ (.int .i64 hBlk.kind)).setCell ⟨g7, 19, none⟩ (.string hBlk.text)).setCell ⟨g7, 20, none⟩ (.int .i64 hBlk.num)).setCell ⟨g7, 21, none⟩ (.int .i64 hBlk.pos)).setCell ⟨g7, 22, none⟩ (.slice A (nest i).len c)).setCell ⟨g7, 23, none⟩ (.int .i64 hBlk.tk)).setCell ⟨g7, 24, none⟩ (.string hBlk.tn)).setCell ⟨g7, 25, none⟩ (.int .i64 hBlk.ref)).setCell ⟨g7, 26, none⟩ (.int .i64 hBlk.up)) = V → Calls Tryz.prog 13 #[nv hFile (ad g9) 2 2] V.drew fun e w' => e = .returned (.bool (decide ((i : Int) + 3 ≤ 50))) ∧ Below w.heap.size w w') := Lib.hid fun W3 V h3 he => by
        subst h3
        have hk := smp_dep S3 HL.out.2.1 KQ he
        have hbv : Below w.heap.size w V := nine_below (o := 18) BW3 (by have := B1.out.size; have := HL.out.2.2.2.2; omega) he
        exact (valid_any hFile (fFileN i) (ad g9) 2 V.drew (glob_below HG.out (Below.drew hbv)) (hk.1.carry fun b hb => ⟨hb, rfl⟩) numIx_file.1 (fileN_num i) (by have := nest_cnt i; simp only [fFileN, fFunN, Fo.cnt]; have e1 : fVar.cnt = 2 := rfl; have e2 : fPar.cnt = 2 := rfl; omega)).mono fun e w' hq => ⟨by rw [hq.1, fileN_valid], (Below.drew hbv).trans (hq.2.mono (by have := (Below.drew hbv).size; omega))⟩
      generalize hW3 : World.alloc w2 _ = W3 at *
      have HV3 := Lib.hid (fun V he => HV.out W3 V rfl he)
      have h50 : (i : Int) + 3 ≤ 66 := by omega
      obtain ⟨ln, hln⟩ : ∃ ln, (nest i).len = ln := ⟨_, rfl⟩
      rw [hln] at q4 HV3
      clear HV hW3 S3 NF NQ KQ e7 hln HL BW3 B3
      go_region
      all_goals
        go_wp2_with (go_at_call 13; refine (HV3.out _ rfl).mono ?_; rintro e w9 ⟨rfl, hb9⟩; have B9 := Lib.hid hb9; clear hb9)
        go_ret
        exact ⟨rfl, B9.out⟩
theorem depth_at (a : Int) (ha : (Lit.int .u8 a).wf = true) (w : World) (hG : Glob w) (hT : Tb w) (h5 : 5 ≤ w.heap.size) : Calls Tryz.prog 4 #[.int .u8 a] w fun e w' => e = .returned (.bool true) ∧ Below w.heap.size w w' := by
  unfold Lit.wf at ha
  rw [Bool.and_eq_true, decide_eq_true_eq, decide_eq_true_eq] at ha
  have h1 : (0 : Int) ≤ a := ha.1
  have h2 : a ≤ 255 := ha.2
  obtain ⟨m, rfl⟩ : ∃ m : Nat, a = (m : Int) := ⟨a.toNat, by omega⟩
  exact depth_law m (by omega) w hG hT h5
end Go.Proofs.YticbcnhbpbaocaaGreatDoor
