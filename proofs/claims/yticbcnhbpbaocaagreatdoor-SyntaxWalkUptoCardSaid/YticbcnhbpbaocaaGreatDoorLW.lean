/-
  The walk of the law SyntaxWalk.
-/
import Derived.Test.YticbcnhbpbaocaaGreatDoorLA
import Derived.Test.YticbcnhbpbaocaaGreatDoorCG
import Derived.RangeFuncNested
import Derived.RegionTactic
import Derived.Shelf.RegionOpen

set_option linter.all false
namespace Go.Proofs.YticbcnhbpbaocaaGreatDoor
open Go.RowKit Go.Shelf T T.Fo
set_option linter.all false
attribute [local go_sem] Oper.semAt_some

theorem ecells_at : ∀ (E : List El) (i : Nat) (e : El), E[i]? = some e → ∀ (c : Nat) (v : Value), e.cells[c]? = some v → (ecells E)[i * 9 + c]? = some v := by
  intro E
  induction E with
  | nil => intro i e he; simp at he
  | cons a l ih =>
    intro i e he c v hv
    have ha : a.cells.length = 9 := rfl
    have e0 : ecells (a :: l) = a.cells ++ ecells l := rfl
    cases i with
    | zero =>
      obtain rfl : a = e := by simpa using he
      have hc : c < a.cells.length := (List.getElem?_eq_some_iff.1 hv).1
      rw [e0, Nat.zero_mul, Nat.zero_add, List.getElem?_append_left hc, hv]
    | succ j =>
      have := ih j e (by simpa using he) c v hv
      rw [e0, List.getElem?_append_right (by rw [ha]; omega), ha, show (j + 1) * 9 + c - 9 = j * 9 + c by omega]
      exact this
theorem el_at {w : World} {base g n cap : Nat} {E : List El} (HO : w.ownsRow base 26 9 (.slice (some ⟨g, 0, none⟩) n cap) n (ecells E)) (i : Nat) (e : El) (he : E[i]? = some e) : At9 w g (i * 9) e.h e.A e.k.len e.cap := by
  have k := fun c v hv => own_cells HO (i * 9 + c) v (ecells_at E i e he c v hv)
  exact ⟨k 0 _ rfl, k 1 _ rfl, k 2 _ rfl, k 3 _ rfl, k 4 _ rfl, k 5 _ rfl, k 6 _ rfl, k 7 _ rfl, k 8 _ rfl⟩
theorem pre_cnt' (F : Fo) : ∀ x ∈ F.pre, x.2.cnt < F.cnt := by
  induction F with
  | nil => intro x hx; cases hx
  | cons h k r ihk ihr =>
    intro x hx
    simp only [Fo.pre, List.mem_cons, List.mem_append] at hx
    simp only [Fo.cnt]
    rcases hx with rfl | hx | hx
    · show k.cnt < _; omega
    · have := ihk x hx; omega
    · have := ihr x hx; omega
theorem pre_cnt (h : Hd) (F : Fo) : ∀ x ∈ preT h F, x.2.cnt ≤ F.cnt := by
  intro x hx
  simp only [preT, List.mem_cons] at hx
  rcases hx with rfl | hx
  · exact Nat.le_refl _
  · have := pre_cnt' F x hx; omega
theorem G2.KC.set_ {n₀ : Nat} {C : Nat → Prop} {A B : World} (h : G2.KC n₀ C A B) {p : Addr} (hp : C p.block) (hn : n₀ ≤ p.block) (u : Value) : G2.KC n₀ C A (B.setCell p u) :=
  h.trans ⟨by simp [World.setCell], fun b hb => Below.heap_setCell B p u b (by omega), fun b cs t fr hc hnc => Below.heap_setCell B p u b (fun e => hnc (by rw [e]; exact hp))⟩

theorem ownFrom_pure {β : Type} {B : Nat} (P : β → Prop) : OwnFrom B (fun s (_ : World) => P s) := fun _ _ _ _ hs _ _ => hs
def WS (b : Nat) (h : Hd) (A : Option Addr) (n c bi bl : Nat) (vi vl : Value) (W w' : World) : Prop := w'.cell? ⟨b, 0, none⟩ = some (.int .i64 h.kind) ∧ w'.cell? ⟨b, 1, none⟩ = some (.string h.text) ∧ w'.cell? ⟨b, 2, none⟩ = some (.int .i64 h.num) ∧ w'.cell? ⟨b, 3, none⟩ = some (.int .i64 h.pos) ∧ w'.cell? ⟨b, 4, none⟩ = some (.slice A n c) ∧ w'.cell? ⟨b, 5, none⟩ = some (.int .i64 h.tk) ∧ w'.cell? ⟨b, 6, none⟩ = some (.string h.tn) ∧ w'.cell? ⟨b, 7, none⟩ = some (.int .i64 h.ref) ∧ w'.cell? ⟨b, 8, none⟩ = some (.int .i64 h.up) ∧ w'.cell? ⟨bi, 0, none⟩ = some vi ∧ w'.cell? ⟨bl, 0, none⟩ = some vl ∧ Below W.heap.size W w'
theorem WS.keep {b : Nat} {h : Hd} {A : Option Addr} {n c bi bl : Nat} {vi vl : Value} {W V w' : World} (h0 : WS b h A n c bi bl vi vl W V) (hb : Below V.heap.size V w') : w'.cell? ⟨b, 0, none⟩ = some (.int .i64 h.kind) ∧ w'.cell? ⟨b, 1, none⟩ = some (.string h.text) ∧ w'.cell? ⟨b, 2, none⟩ = some (.int .i64 h.num) ∧ w'.cell? ⟨b, 3, none⟩ = some (.int .i64 h.pos) ∧ w'.cell? ⟨b, 4, none⟩ = some (.slice A n c) ∧ w'.cell? ⟨b, 5, none⟩ = some (.int .i64 h.tk) ∧ w'.cell? ⟨b, 6, none⟩ = some (.string h.tn) ∧ w'.cell? ⟨b, 7, none⟩ = some (.int .i64 h.ref) ∧ w'.cell? ⟨b, 8, none⟩ = some (.int .i64 h.up) ∧ w'.cell? ⟨bi, 0, none⟩ = some vi ∧ w'.cell? ⟨bl, 0, none⟩ = some vl ∧ Below W.heap.size W w' := by
  obtain ⟨x0, x1, x2, x3, x4, x5, x6, x7, x8, x9, x10, bb⟩ := h0
  exact ⟨cell_bel x0 hb, cell_bel x1 hb, cell_bel x2 hb, cell_bel x3 hb, cell_bel x4 hb, cell_bel x5 hb, cell_bel x6 hb, cell_bel x7 hb, cell_bel x8 hb, cell_bel x9 hb, cell_bel x10 hb, bb.trans (hb.mono bb.size)⟩
theorem WS.start {b : Nat} {h : Hd} {A : Option Addr} {n c bi bl : Nat} {vi vl : Value} {W V : World} (h0 : WS b h A n c bi bl vi vl W V) : V.drew.cell? ⟨b, 0, none⟩ = some (.int .i64 h.kind) ∧ V.drew.cell? ⟨b, 1, none⟩ = some (.string h.text) ∧ V.drew.cell? ⟨b, 2, none⟩ = some (.int .i64 h.num) ∧ V.drew.cell? ⟨b, 3, none⟩ = some (.int .i64 h.pos) ∧ V.drew.cell? ⟨b, 4, none⟩ = some (.slice A n c) ∧ V.drew.cell? ⟨b, 5, none⟩ = some (.int .i64 h.tk) ∧ V.drew.cell? ⟨b, 6, none⟩ = some (.string h.tn) ∧ V.drew.cell? ⟨b, 7, none⟩ = some (.int .i64 h.ref) ∧ V.drew.cell? ⟨b, 8, none⟩ = some (.int .i64 h.up) ∧ V.drew.cell? ⟨bi, 0, none⟩ = some vi ∧ V.drew.cell? ⟨bl, 0, none⟩ = some vl ∧ Below W.heap.size W V.drew := by
  obtain ⟨x0, x1, x2, x3, x4, x5, x6, x7, x8, x9, x10, bb⟩ := h0
  exact ⟨x0, x1, x2, x3, x4, x5, x6, x7, x8, x9, x10, Below.drew bb⟩
theorem keeps_below {W W' : World} (h : Below W.heap.size W W') : KeepsOthers W W' := ⟨h.size, fun k o hk _ => (h.block k (Array.getElem?_eq_some_iff.1 hk).1).trans hk⟩
theorem nb_lt {V : World} {b : Nat} {h : Hd} {A : Option Addr} {n c : Nat} (H : Nb V b h A n c) : b < V.heap.size := (Array.getElem?_eq_some_iff.1 H).1

set_option maxRecDepth 100000 in
set_option maxHeartbeats 8000000 in
theorem walkL_main (h : Hd) (F : Fo) (A : Option Addr) (cap : Nat) (s : Int) (w : World) (hG : Glob w) (hT : Tb w) (h16 : 5 ≤ w.heap.size) (hk : Kids (Lt w.heap.size) w A F) (hcap : F.len ≤ cap) (hc3 : F.cnt + 1 ≤ 300) (hs0 : 0 ≤ s) (hs1 : s ≤ 255) :
    CallsIn Fence.wide 9 Tryz.prog 9 #[nv h A F.len cap, .int .u8 s] w fun e w' => e = .returned (.bool true) ∧ Below w.heap.size w w' := by
  have h1 : 1 ≤ 9 := by omega
  have hro : Fence.wide.round = none := rfl
  refine callsIn_of_wp_marks Tryz.func9 rfl trivial ?_ hro
  simp only [Tryz.ntmps9, List.size_toArray, List.length_cons, List.length_nil, Nat.reduceAdd, Nat.reduceSub, Array.replicate_succ, Array.replicate_zero, List.push_toArray, List.append_toArray, List.nil_append, List.cons_append]
  have HA0 : Hid (Below w.heap.size w (((w.alloc (bx h A F.len cap)).alloc (.cells #[.int .u8 s] 5)).alloc (.cells #[.bool false] 4))) := Lib.hid (((((Below.refl _ _).alloc (Nat.le_refl _) _).alloc (by simp) _)).alloc (by simp; omega) _)
  have HAW : Hid (Calls Tryz.prog 10 #[] (((w.alloc (bx h A F.len cap)).alloc (.cells #[.int .u8 s] 5)).alloc (.cells #[.bool false] 4)) fun e w' => e = .returned (.bool true) ∧ Below w.heap.size w w' ∧ Below (w.heap.size + 3) (((w.alloc (bx h A F.len cap)).alloc (.cells #[.int .u8 s] 5)).alloc (.cells #[.bool false] 4)) w') := Lib.hid ((awake_any _ (glob_below hG HA0.out) (hT.below HA0.out h16) (by simp; omega)).mono fun e w' hq => ⟨hq.1, HA0.out.trans (hq.2.mono (by simp; omega)), by have := hq.2; simpa using this⟩)
  have HGa : Hid (∀ V, Below w.heap.size w V → Calls Tryz.prog 11 #[nv h A F.len cap] V fun e w' => e = .returned (.bool false) ∧ Below V.heap.size V w') := Lib.hid fun V hV => great_no (kids_at hk hV) (by omega) hc3
  have HL : Hid (∀ V, Below w.heap.size w V → Calls Tryz.prog 26 #[nv h A F.len cap] V (Listed V w.heap.size (preT h F))) := Lib.hid fun V hV => list_any h F A cap V w.heap.size hV.size (hk.below hV (Nat.le_refl _)) hcap (by omega)
  have N0 : Hid (Nb (((w.alloc (bx h A F.len cap)).alloc (.cells #[.int .u8 s] 5)).alloc (.cells #[.bool false] 4)) w.heap.size h A F.len cap) := Lib.hid (((Nb.new w h A F.len cap).below ((Below.refl _ _).alloc (Nat.le_refl _) _)).below ((Below.refl _ _).alloc (Nat.le_refl _) _))
  obtain ⟨na, hna⟩ : ∃ n, F.len = n := ⟨_, rfl⟩
  rw [hna] at HA0 HAW HGa HL N0 ⊢
  have hNa := Lib.hid hna
  clear hna hG hT h16
  gi_wp2_with (first
    | (refine ⟨trivial, ?_⟩; gi_at_call 10; refine ((callsIn_wide (n := 8)).2 HAW.out).mono ?_; rintro e w1 ⟨rfl, hb1, hb1'⟩; have B1 := Lib.hid hb1; have B1' := Lib.hid hb1'; have N1 := Lib.hid (N0.out.below (by have := hb1'; simpa using this)); obtain ⟨p0, p1, p2, p3, p4, p5, p6, p7, p8⟩ := N1.out.cells; clear hb1 hb1')
    | (refine ⟨trivial, ?_⟩; gi_at_call 11; refine ((callsIn_wide (n := 8)).2 (HGa.out _ B1.out)).mono ?_; rintro e w2 ⟨rfl, hb2⟩; have B2 : Hid (Below w.heap.size w w2) := Lib.hid (B1.out.trans (hb2.mono B1.out.size)); have B2' := Lib.hid hb2; have N2 := Lib.hid (N1.out.below hb2); obtain ⟨q0, q1, q2, q3, q4, q5, q6, q7, q8⟩ := N2.out.cells; clear hb2)
    | (refine ⟨trivial, ?_⟩; gi_at_call 26; refine ((callsIn_wide (n := 8)).2 (HL.out _ B2.out)).mono ?_; rintro e w3 ⟨g, lc, E, rfl, hown, hels, hEm, hb3, hE0⟩; have HO := Lib.hid hown; have HE := Lib.hid hels; have B3 : Hid (Below w2.heap.size w2 w3) := Lib.hid hb3; have N3 := Lib.hid (N2.out.below hb3); obtain ⟨r0, r1, r2, r3, r4, r5, r6, r7, r8⟩ := N3.out.cells; have z3 := nb_lt N3.out; have z3n := Nat.ne_of_lt z3; have z3m := Nat.ne_of_lt (Nat.lt_succ_of_lt z3); clear hown hels hb3)
    | (refine ⟨trivial, ?_⟩; gi_at_call 27; refine (pre27_in Fence.wide 8 trivial rfl _ _ _ _ _).mono ?_; rintro e w' ⟨rfl, rfl⟩))
  have e := hNa.out
  subst e
  clear hNa
  have bW := ((Boxed.new w3 22 (.slice (some ⟨g, 0, none⟩) E.length lc)).alloc (.cells #[.int .i64 0] 3)).alloc (.cells (nc h A F.len cap) 26)
  have bI := (Boxed.new (w3.alloc (.cells #[.slice (some ⟨g, 0, none⟩) E.length lc] 22)) 3 (.int .i64 0)).alloc (.cells (nc h A F.len cap) 26)
  have hbn := heap_alloc_new ((w3.alloc (.cells #[.slice (some ⟨g, 0, none⟩) E.length lc] 22)).alloc (.cells #[.int .i64 0] 3)) (.cells (nc h A F.len cap) 26)
  have hB0 : Below w3.heap.size w3 (((w3.alloc (.cells #[.slice (some ⟨g, 0, none⟩) E.length lc] 22)).alloc (.cells #[.int .i64 0] 3)).alloc (.cells (nc h A F.len cap) 26)) := (((Below.refl _ w3).alloc (Nat.le_refl _) _).alloc (by simp) _).alloc (by simp; omega) _
  have hsz : (((w3.alloc (.cells #[.slice (some ⟨g, 0, none⟩) E.length lc] 22)).alloc (.cells #[.int .i64 0] 3)).alloc (.cells (nc h A F.len cap) 26)).heap.size = w3.heap.size + 3 := by simp
  simp only [World.size_alloc] at bI hbn
  obtain ⟨W0, hW0⟩ : ∃ W0, (((w3.alloc (.cells #[.slice (some ⟨g, 0, none⟩) E.length lc] 22)).alloc (.cells #[.int .i64 0] 3)).alloc (.cells (nc h A F.len cap) 26)) = W0 := ⟨_, rfl⟩
  rw [hW0] at bW bI hbn hB0 hsz ⊢
  clear hW0
  have BW3 : Below w.heap.size w w3 := B2.out.trans (B3.out.mono B2.out.size)
  have HK3 : Kids (Lt w3.heap.size) w3 A F := kids_at hk BW3
  refine wpIn_rangeFunc_ownH hro h1 (gf := 40) (lb := #[.pointer (some ⟨w3.heap.size + 1 + 1, 0, none⟩)]) rfl trivial (enters_of Tryz.func40 (by kernel_rfl) rfl)
    (G2.walk_stops Fence.wide rfl 8 trivial trivial hro w3.heap.size (w3.heap.size + 1 + 1) (fun b => b = w3.heap.size + 1) w3 h F A cap W0 (fun b hb => by omega) (by omega) hcap HK3 (by omega) (fun b hb => hB0.block b hb) (by omega) hbn) (fun h k => h.trans k) (fun W l o o' hl ho hc _ => G2.KC.putObj W l o o' (by omega) ho hc) (Below.refl _ _) (fun _ => rfl)
    (fun pre W => (Boxed W (w3.heap.size + 1) 3 (.int .i64 (pre.length : Int)) ∧ Boxed W w3.heap.size 22 (.slice (some ⟨g, 0, none⟩) E.length lc)) ∧ Below w3.heap.size w3 W)
    (fun (c : Code) (pre : List (G2.Al w3.heap.size w3)) (_ : World) => c = .ret ∧ ∃ (pre0 : List (G2.Al w3.heap.size w3)) (x : G2.Al w3.heap.size w3), pre = pre0 ++ [x] ∧ (preT h F)[pre0.length]? ≠ some (x.1.h, x.1.k))
    (OwnFrom.and (OwnFrom.and (Own.from (boxed_own _ _ _) _) (Own.from (boxed_own _ _ _) _)) (ownFrom_below (Nat.le_refl _) (by omega)))
    (fun _ _ _ _ _ hs _ _ => hs)
    ⟨⟨bI, bW⟩, hB0⟩
    (fun x a' W => ∃ Bx, w3.heap.size + 1 < Bx ∧ W.heap[Bx]? = some (.cells (nc x.1.h x.1.A x.1.k.len x.1.cap) 26 (0, 0)) ∧ a' = { tmps := #[nv h A F.len cap, .int .u8 s, .pointer (some ⟨w.heap.size, 0, none⟩), .pointer (some ⟨w.heap.size + 1, 0, none⟩), .pointer (some ⟨w.heap.size + 1 + 1, 0, none⟩), .pointer (some ⟨w3.heap.size, 0, none⟩), .pointer (some ⟨w3.heap.size + 1, 0, none⟩), .pointer (some ⟨Bx, 0, none⟩), undef, .bool true, .bool false, nv h A F.len cap, .bool false, nv h A F.len cap, .slice (some ⟨g, 0, none⟩) E.length lc, nv h A F.len cap, .func (.func 40) #[] #[.pointer (some ⟨w3.heap.size + 1 + 1, 0, none⟩)], nv x.1.h x.1.A x.1.k.len x.1.cap, undef, undef, undef, undef, undef, undef, undef, undef, undef, undef, undef, undef, undef, undef, undef, undef, undef, undef, undef, undef, undef, undef, undef, undef, undef, undef, undef, undef, undef, undef, undef, undef, undef, undef, undef, undef, undef, undef, undef, undef, undef, undef], defers := [] })
    (fun x a' _ X Y row hs hg hr => ?own)
    ?assign ?body ?done ?stop
  case own =>
    obtain ⟨Bx, h1, h2, h3⟩ := hs
    exact ⟨Bx, h1, (hg.block Bx (Array.getElem?_eq_some_iff.1 h2).1 (fun e => by obtain ⟨_, o, ho, hc⟩ := hr Bx e.symm; rw [h2] at ho; cases ho; cases hc)).trans h2, h3⟩
  case assign =>
    rintro l pre x W K ⟨⟨bI1, bW1⟩, hB1⟩ hK
    have hW3 := bI1.lt
    gi_wp2
    exact hK _ _ ((KeepsOthers.alloc _ _).from _) (G2.KC.alloc (G2.KC.refl _ _ _) _ hB1.size) ⟨⟨bI1.alloc _, bW1.alloc _⟩, hB1.alloc hB1.size _⟩ ⟨W.heap.size, hW3, heap_alloc_new W _, rfl⟩
  case body =>
    rintro l pre x a' W hl ⟨r, hr⟩ ⟨⟨bI1, bW1⟩, hB1⟩ ⟨Bx, hBx, bX, rfl⟩ hlt
    have hEl : E.length = 1 + F.cnt := by have := congrArg List.length hEm; simpa [preT_len] using this
    have hi : pre.length < E.length := by omega
    obtain ⟨y, hy⟩ : ∃ y, E[pre.length]? = some y := ⟨E[pre.length], by simp [hi]⟩
    have hmem := List.mem_of_getElem? hy
    have hels := HE.out y hmem
    have hgl := HO.out.lt g rfl
    have hat := (el_at HO.out pre.length y hy).carry (hB1.block g (by omega))
    have hyl : y.k.cnt ≤ 1048576 := by
      have hm : (y.h, y.k) ∈ preT h F := by rw [← hEm]; exact List.mem_map.2 ⟨y, hmem, rfl⟩
      have h9 : y.k.cnt ≤ F.cnt := pre_cnt h F _ hm
      omega
    have hpy : (preT h F)[pre.length]? = some (y.h, y.k) := by rw [← hEm, List.getElem?_map, hy]; rfl
    obtain ⟨v, hv⟩ : ∃ v, sameT x.1.h x.1.k y.h y.k = v := ⟨_, rfl⟩
    have HSM : Hid (∀ V, Below W.heap.size W V → CallsIn (Fence.wide.inRound l) (9 - 1 - 1 - 1) Tryz.prog 17 #[nv x.1.h x.1.A x.1.k.len x.1.cap, nv y.h y.A y.k.len y.cap] V fun e w' => e = .returned (.bool v) ∧ Below V.heap.size V w') := Lib.hid fun V hV => by
      have hbv : Below w3.heap.size w3 V := hB1.trans (hV.mono hB1.size)
      have hkx : Kids (Lt V.heap.size) V x.1.A x.1.k := kids_at x.2.2.1 hbv
      have hky : Kids (Lt V.heap.size) V y.A y.k := kids_at (hels.2.mono BW3.size) hbv
      have := same_any x.1.h x.1.k y.h y.k x.1.A y.A x.1.cap y.cap V hkx hky (by have := x.2.2.2; unfold maxLen; omega) (by unfold maxLen; omega)
      rw [hv] at this
      exact (callsIn_wide.2 this).inRound l
    have ci := bI1.cell
    have cw := bW1.cell
    have hnb : Nb W Bx x.1.h x.1.A x.1.k.len x.1.cap := bX
    obtain ⟨x0, x1, x2, x3, x4, x5, x6, x7, x8⟩ := hnb.cells
    obtain ⟨y0, y1, y2, y3, y4, y5, y6, y7, y8⟩ := hat
    have hge : ((pre.length : Int) < (E.length : Int)) := by omega
    have hge0 : (0 : Int) ≤ (pre.length : Int) := by omega
    obtain ⟨lx, hlx⟩ : ∃ n, x.1.k.len = n := ⟨_, rfl⟩
    obtain ⟨ly, hly⟩ : ∃ n, y.k.len = n := ⟨_, rfl⟩
    rw [hlx] at HSM x4 ⊢
    rw [hly] at HSM y4
    have HBW := Lib.hid hB1
    have HBI := Lib.hid bI1
    have HBWW := Lib.hid bW1
    have HPY := Lib.hid hpy
    have HVV := Lib.hid hv
    have hzW : W.heap.size ≤ W.heap.size := Nat.le_refl _
    have hmx : Tryz.prog.follows .mixedOrders = true := by kernel_rfl
    have hBW1 : w3.heap.size + 1 < W.heap.size := bI1.lt
    have hBxW : Bx < W.heap.size := (Array.getElem?_eq_some_iff.1 bX).1
    have hgW : g < W.heap.size := by have := hB1.size; omega
    have H4 : Hid (W.heap[w.heap.size + 1 + 1]? = some (.cells #[.bool false] 4 (0, 0))) := Lib.hid (by
      have e0 : (((w.alloc (bx h A F.len cap)).alloc (.cells #[.int .u8 s] 5)).alloc (.cells #[.bool false] 4)).heap[w.heap.size + 1 + 1]? = some (.cells #[.bool false] 4 (0, 0)) := by
        have := heap_alloc_new ((w.alloc (bx h A F.len cap)).alloc (.cells #[.int .u8 s] 5)) (.cells #[.bool false] 4)
        simpa using this
      have z1 := B1'.out.size
      have e1 := (B1'.out.block (w.heap.size + 1 + 1) (by omega)).trans e0
      have l1 : w.heap.size + 1 + 1 < w1.heap.size := (Array.getElem?_eq_some_iff.1 e1).1
      have e2 := (B2'.out.block _ l1).trans e1
      have l2 : w.heap.size + 1 + 1 < w2.heap.size := (Array.getElem?_eq_some_iff.1 e2).1
      have e3 := (B3.out.block _ l2).trans e2
      have l3 : w.heap.size + 1 + 1 < w3.heap.size := (Array.getElem?_eq_some_iff.1 e3).1
      exact (hB1.block _ l3).trans e3)
    have HN3 : Hid (w3.heap.size ≤ W.heap.size) := Lib.hid hB1.size
    have d1 : decide (E.length ≤ pre.length) = false := by simp; omega
    have d2 : decide ((E.length : Int) ≤ (pre.length : Int)) = false := by simp; omega
    have hpl : pre.length ≤ 1000 := by omega
    have HEl := Lib.hid hEl
    clear hEl hmem hels hgl hpy hv hB1 bI1 bW1 bX hnb hlx hly hk hy p0 p1 p2 p3 p4 p5 p6 p7 p8 q0 q1 q2 q3 q4 q5 q6 q7 q8 r0 r1 r2 r3 r4 r5 r6 r7 r8 hEm hbn hB0 hyl HK3 BW3 hc3 hcap
    cases v with
    | true =>
      gi_wp2_with fail
      gi_region_with_o (refine ⟨trivial, ?_⟩; gi_at_call 17; refine (HSM.out _ ?_).mono ?_; (first | exact Below.refl _ _ | exact Below.drew (Below.refl _ _)); rintro e W2 ⟨rfl, hb⟩)
      all_goals
        have hbb : Below W.heap.size W W2 := (Below.drew (Below.refl _ _)).trans hb
        have bI2 : Boxed W2 (w3.heap.size + 1) 3 (.int .i64 (pre.length : Int)) := (hbb.block _ hBW1).trans HBI.out
        have bW2 : Boxed W2 w3.heap.size 22 (.slice (some ⟨g, 0, none⟩) E.length lc) := (hbb.block _ (by omega)).trans HBWW.out
        have HI2 := Lib.hid bI2
        have HW2 := Lib.hid bW2
        have HBB := Lib.hid hbb
        have ci2 := bI2.cell
        have cf2 := bI2.frozen
        clear hb hbb bI2 bW2
        gi_wp2
        exact ⟨((keeps_below HBB.out).trans (KeepsOthers.setCell _ _ _)).from _, (G2.KC.below (C := fun b => b = w3.heap.size + 1) HBB.out HN3.out).set_ (p := ⟨w3.heap.size + 1, 0, none⟩) rfl (by show w3.heap.size ≤ w3.heap.size + 1; omega) _, ⟨by simpa using HI2.out.set (.int .i64 ((pre.length : Int) + 1)), (Below.heap_setCell _ _ _ _ (by simp)).trans HW2.out⟩, (HBW.out.trans (HBB.out.mono HN3.out)).setCell (by simp) _⟩
    | false =>
      gi_wp2_with fail
      gi_region_with_o (refine ⟨trivial, ?_⟩; gi_at_call 17; refine (HSM.out _ ?_).mono ?_; (first | exact Below.refl _ _ | exact Below.drew (Below.refl _ _)); rintro e W2 ⟨rfl, hb⟩)
      all_goals
        have hbb : Below W.heap.size W W2 := (Below.drew (Below.refl _ _)).trans hb
        have b4 := (hbb.block _ (Array.getElem?_eq_some_iff.1 H4.out).1).trans H4.out
        have c4' : W2.cell? ⟨w.heap.size + 1 + 1, 0, none⟩ = some (.bool false) := by simp [World.cell?, b4]
        have f4' : W2.frozen? ⟨w.heap.size + 1 + 1, 0, none⟩ = false := by simp [World.frozen?, b4]
        have HBB := Lib.hid hbb
        clear hb hbb b4
        gi_wp2
        exact ⟨((keeps_below HBB.out).trans (KeepsOthers.setCell _ _ _)).from _, rfl, pre, x, rfl, fun he => by
          rw [HPY.out] at he
          have e2 := Option.some.inj he
          have e3 : y.h = x.1.h ∧ y.k = x.1.k := ⟨congrArg Prod.fst e2, congrArg Prod.snd e2⟩
          have hv := HVV.out
          rw [e3.1, e3.2] at hv
          unfold sameT at hv
          simp at hv⟩
  case done =>
    rintro D ys W hD hys ⟨⟨bI1, bW1⟩, hB1⟩ hK
    have hyl : ys.length = E.length := by
      have e1 := congrArg List.length hys
      have e2 := congrArg List.length hEm
      simp [G2.hks] at e1
      simp at e2
      omega
    rw [hyl] at bI1
    have HB1 := Lib.hid hB1
    have HBI := Lib.hid bI1
    have HBW := Lib.hid bW1
    have HK := Lib.hid hK
    have hm : F.cnt + 1 = E.length := by have := congrArg List.length hEm; simp [preT_len] at this; omega
    have hBW : Below w.heap.size w W := BW3.trans (hB1.mono BW3.size)
    have HBWW := Lib.hid hBW
    have HSC : Hid (∀ V, Below W.heap.size W V → Calls Tryz.prog 15 #[nv h A F.len cap] V fun e w' => e = .returned (.int .i64 (E.length : Int)) ∧ Below V.heap.size V w') := Lib.hid fun V hV => scount_any h F A cap V E.length hcap (kids_at hk (hBW.trans (hV.mono hBW.size))) hm (by omega)
    have HNW := Lib.hid (N3.out.below hB1)
    obtain ⟨n, hn⟩ : ∃ n, F.len = n := ⟨_, rfl⟩
    rw [hn] at HSC HNW ⊢
    obtain ⟨x0, x1, x2, x3, x4, x5, x6, x7, x8⟩ := HNW.out.cells
    have ci := bI1.cell
    have cw := bW1.cell
    have HSW : Hid (WS w.heap.size h A n cap (w3.heap.size + 1) w3.heap.size (.int .i64 (E.length : Int)) (.slice (some ⟨g, 0, none⟩) E.length lc) W W) := Lib.hid ⟨x0, x1, x2, x3, x4, x5, x6, x7, x8, ci, cw, Below.refl _ _⟩
    have hmx : Tryz.prog.follows .mixedOrders = true := by kernel_rfl
    have HN := Lib.hid hn
    clear hn bI1 bW1 hB1 hK p0 p1 p2 p3 p4 p5 p6 p7 p8 q0 q1 q2 q3 q4 q5 q6 q7 q8 r0 r1 r2 r3 r4 r5 r6 r7 r8 hbn hB0 bW bI
    gi_wp2_with fail
    refine wpIn_wide.2 ?_
    go_region_held3 (fun w' => w'.cell? ⟨w.heap.size, 0, none⟩ = some (.int .i64 h.kind) ∧ w'.cell? ⟨w.heap.size, 1, none⟩ = some (.string h.text) ∧ w'.cell? ⟨w.heap.size, 2, none⟩ = some (.int .i64 h.num) ∧ w'.cell? ⟨w.heap.size, 3, none⟩ = some (.int .i64 h.pos) ∧ w'.cell? ⟨w.heap.size, 4, none⟩ = some (.slice A n cap) ∧ w'.cell? ⟨w.heap.size, 5, none⟩ = some (.int .i64 h.tk) ∧ w'.cell? ⟨w.heap.size, 6, none⟩ = some (.string h.tn) ∧ w'.cell? ⟨w.heap.size, 7, none⟩ = some (.int .i64 h.ref) ∧ w'.cell? ⟨w.heap.size, 8, none⟩ = some (.int .i64 h.up) ∧ w'.cell? ⟨w3.heap.size + 1, 0, none⟩ = some (.int .i64 (E.length : Int)) ∧ w'.cell? ⟨w3.heap.size, 0, none⟩ = some (.slice (some ⟨g, 0, none⟩) E.length lc) ∧ Below W.heap.size W w')
      (first | exact HSW.out.start | exact WS.keep (by assumption) hbb)
      (first | (go_at_call 15; (with_reducible refine (HSC.out _ ?_).mono ?_); (go_split_ands; assumption); rintro e w' ⟨rfl, hbb⟩))
    have HBV : Hid (Below W.heap.size W w') := Lib.hid (by go_split_ands; assumption)
    have hzv : w.heap.size < w'.heap.size := by have h1 := HNW.out.below HBV.out; exact nb_lt h1
    have hzvn : w.heap.size ≠ w'.heap.size := Nat.ne_of_lt hzv
    have hzvm : w.heap.size ≠ w'.heap.size.succ := Nat.ne_of_lt (Nat.lt_succ_of_lt hzv)
    go_split_ands
    gi_wp2_with (refine ⟨trivial, ?_⟩; gi_at_call 27; refine (pre27_in Fence.wide 8 trivial rfl _ _ _ _ _).mono ?_; rintro e w'' ⟨rfl, rfl⟩)
    have e := HN.out
    subst e
    clear HN HSW HSC
    have hBV : Below w.heap.size w w' := HBWW.out.trans (HBV.out.mono HBWW.out.size)
    have HKV : Kids (Lt w'.heap.size) w' A F := kids_at hk hBV
    have HS5 : Hid (w'.heap[w.heap.size + 1]? = some (.cells #[.int .u8 s] 5 (0, 0))) := Lib.hid (by
      have e0 : (((w.alloc (bx h A F.len cap)).alloc (.cells #[.int .u8 s] 5)).alloc (.cells #[.bool false] 4)).heap[w.heap.size + 1]? = some (.cells #[.int .u8 s] 5 (0, 0)) := by
        have := heap_alloc_new (w.alloc (bx h A F.len cap)) (.cells #[.int .u8 s] 5)
        rw [World.size_alloc] at this
        rw [Below.heap_alloc _ _ _ (by simp)]
        exact this
      have e1 := (B1'.out.block (w.heap.size + 1) (by omega)).trans e0
      have l1 : w.heap.size + 1 < w1.heap.size := (Array.getElem?_eq_some_iff.1 e1).1
      have e2 := (B2'.out.block _ l1).trans e1
      have l2 : w.heap.size + 1 < w2.heap.size := (Array.getElem?_eq_some_iff.1 e2).1
      have e3 := (B3.out.block _ l2).trans e2
      have l3 : w.heap.size + 1 < w3.heap.size := (Array.getElem?_eq_some_iff.1 e3).1
      have e4 := (HB1.out.block _ l3).trans e3
      exact (HBV.out.block _ (Array.getElem?_eq_some_iff.1 e4).1).trans e4)
    have HR4 : Hid (w'.heap[w.heap.size + 1 + 1]? = some (.cells #[.bool false] 4 (0, 0))) := Lib.hid (by
      have e0 : (((w.alloc (bx h A F.len cap)).alloc (.cells #[.int .u8 s] 5)).alloc (.cells #[.bool false] 4)).heap[w.heap.size + 1 + 1]? = some (.cells #[.bool false] 4 (0, 0)) := by
        have := heap_alloc_new ((w.alloc (bx h A F.len cap)).alloc (.cells #[.int .u8 s] 5)) (.cells #[.bool false] 4)
        simpa using this
      have e1 := (B1'.out.block (w.heap.size + 1 + 1) (by omega)).trans e0
      have l1 : w.heap.size + 1 + 1 < w1.heap.size := (Array.getElem?_eq_some_iff.1 e1).1
      have e2 := (B2'.out.block _ l1).trans e1
      have l2 : w.heap.size + 1 + 1 < w2.heap.size := (Array.getElem?_eq_some_iff.1 e2).1
      have e3 := (B3.out.block _ l2).trans e2
      have l3 : w.heap.size + 1 + 1 < w3.heap.size := (Array.getElem?_eq_some_iff.1 e3).1
      have e4 := (HB1.out.block _ l3).trans e3
      exact (HBV.out.block _ (Array.getElem?_eq_some_iff.1 e4).1).trans e4)
    have HLB : Hid (Boxed w' w3.heap.size 22 (.slice (some ⟨g, 0, none⟩) E.length lc)) := Lib.hid ((HBV.out.block _ (Array.getElem?_eq_some_iff.1 HBW.out).1).trans HBW.out)
    have HKD : Hid (w'.heap[D]? = some (.deferred (some []))) := Lib.hid ((HBV.out.block _ (Array.getElem?_eq_some_iff.1 HK.out).1).trans HK.out)
    have bK := (Boxed.new w' 3 (.int .i64 0)).alloc (.cells (nc h A F.len cap) 26)
    have hbn2 := heap_alloc_new (w'.alloc (.cells #[.int .i64 0] 3)) (.cells (nc h A F.len cap) 26)
    have hB2 : Below w'.heap.size w' ((w'.alloc (.cells #[.int .i64 0] 3)).alloc (.cells (nc h A F.len cap) 26)) := ((Below.refl _ w').alloc (Nat.le_refl _) _).alloc (by simp) _
    have hsz2 : ((w'.alloc (.cells #[.int .i64 0] 3)).alloc (.cells (nc h A F.len cap) 26)).heap.size = w'.heap.size + 2 := by simp
    simp only [World.size_alloc] at hbn2
    obtain ⟨W0', hW0'⟩ : ∃ W0', ((w'.alloc (.cells #[.int .i64 0] 3)).alloc (.cells (nc h A F.len cap) 26)) = W0' := ⟨_, rfl⟩
    rw [hW0'] at bK hbn2 hB2 hsz2 ⊢
    clear hW0'
    refine wpIn_rangeFunc_ownH hro h1 (gf := 40) (lb := #[.pointer (some ⟨w'.heap.size + 1, 0, none⟩)]) rfl trivial (enters_of Tryz.func40 (by kernel_rfl) rfl)
      (G2.walk_stops Fence.wide rfl 8 trivial trivial hro w'.heap.size (w'.heap.size + 1) (fun b => b = w'.heap.size) w' h F A cap W0' (fun b hb => by omega) (by omega) hcap HKV (by omega) (fun b hb => hB2.block b hb) (by omega) hbn2) (fun h k => h.trans k) (fun W l o o' hl ho hc _ => G2.KC.putObj W l o o' (by omega) ho hc) (Below.refl _ _) (fun _ => rfl)
      (fun pre W => (Boxed W w'.heap.size 3 (.int .i64 (pre.length : Int)) ∧ (pre.length : Int) ≤ s) ∧ Below w'.heap.size w' W)
      (fun (c : Code) (pre : List (G2.Al w'.heap.size w')) (W : World) => c = .exit 2 ∧ Boxed W w'.heap.size 3 (.int .i64 (pre.length : Int)) ∧ (pre.length : Int) = s + 1 ∧ Below w'.heap.size w' W)
      (OwnFrom.and (OwnFrom.and (Own.from (boxed_own _ _ _) _) (ownFrom_pure _)) (ownFrom_below (Nat.le_refl _) (by omega)))
      (fun c => OwnFrom.and (ownFrom_pure _) (OwnFrom.and (Own.from (boxed_own _ _ _) _) (OwnFrom.and (ownFrom_pure _) (ownFrom_below (Nat.le_refl _) (by omega)))))
      ⟨⟨bK, by simpa using hs0⟩, hB2⟩
      (fun x a' _ => a' = { tmps := #[nv h A F.len cap, .int .u8 s, .pointer (some ⟨w.heap.size, 0, none⟩), .pointer (some ⟨w.heap.size + 1, 0, none⟩), .pointer (some ⟨w.heap.size + 1 + 1, 0, none⟩), .pointer (some ⟨w3.heap.size, 0, none⟩), .pointer (some ⟨w3.heap.size + 1, 0, none⟩), undef, .pointer (some ⟨w'.heap.size, 0, none⟩), .bool true, .bool false, nv h A F.len cap, .bool false, nv h A F.len cap, .slice (some ⟨g, 0, none⟩) E.length lc, nv h A F.len cap, .func (.func 40) #[] #[.pointer (some ⟨w3.heap.size + 1 + 1, 0, none⟩)], undef, undef, undef, undef, undef, undef, undef, undef, undef, undef, undef, undef, undef, undef, undef, undef, .int .i64 (E.length : Int), .slice (some ⟨g, 0, none⟩) E.length lc, .int .i64 (E.length : Int), .bool false, .bool false, .int .i64 (E.length : Int), nv h A F.len cap, .int .i64 (E.length : Int), .bool false, .bool false, nv h A F.len cap, .func (.func 40) #[] #[.pointer (some ⟨w'.heap.size + 1, 0, none⟩)], nv x.1.h x.1.A x.1.k.len x.1.cap, undef, undef, undef, undef, undef, undef, undef, undef, undef, undef, undef, undef, undef, undef], defers := [] }) (fun x a' _ X Y row hs hg hr => hs) ?assign2 ?body2 ?done2 ?stop2
    case assign2 =>
      rintro l pre x W2 K ⟨⟨bK1, hps⟩, hB3⟩ hK2
      gi_wp2
      exact hK2 _ _ (KeepsFrom.refl _ _) (G2.KC.refl _ _ _) ⟨⟨bK1, hps⟩, hB3⟩ rfl
    case body2 =>
      rintro l pre x a' W2 hl ⟨r, hr⟩ ⟨⟨bK1, hps⟩, hB3⟩ rfl hlt
      have hs5 := (hB3.block _ (Array.getElem?_eq_some_iff.1 HS5.out).1).trans HS5.out
      have c5 : W2.cell? ⟨w.heap.size + 1, 0, none⟩ = some (.int .u8 s) := by simp [World.cell?, hs5]
      have ck := bK1.cell
      have fk := bK1.frozen
      have hps2 : (pre.length : Int) ≤ s := hps
      have hpl : pre.length ≤ 255 := by omega
      have hw1 : IntKind.i64.wrap ((pre.length : Int) + 1) = (pre.length : Int) + 1 := IntWalk.i64_in _ (by omega)
      have hw2 : IntKind.i64.wrap s = s := IntWalk.i64_in _ (by omega)
      have HB3 := Lib.hid hB3
      have HBK := Lib.hid bK1
      have hne : ¬ w.heap.size + 1 = w'.heap.size := by have := (Array.getElem?_eq_some_iff.1 HS5.out).1; omega
      have hBS : Boxed (W2.setCell ⟨w'.heap.size, 0, none⟩ (.int .i64 ((pre.length : Int) + 1))) w'.heap.size 3 (.int .i64 ((pre.length : Int) + 1)) := bK1.set (.int .i64 ((pre.length : Int) + 1))
      have HBS := Lib.hid hBS
      by_cases hst : s < (pre.length : Int) + 1
      · gi_wp2
        exact ⟨(KeepsOthers.setCell _ _ _).from _, rfl, by simpa using HBS.out, by simp; omega, HB3.out.setCell (by simp) _⟩
      · gi_wp2
        exact ⟨(KeepsOthers.setCell _ _ _).from _, (G2.KC.refl w'.heap.size (fun b => b = w'.heap.size) W2).set_ (p := ⟨w'.heap.size, 0, none⟩) rfl (Nat.le_refl _) _, ⟨by simpa using HBS.out, by simp; omega⟩, HB3.out.setCell (by simp) _⟩
    case done2 =>
      rintro D2 ys2 W5 hD2 hys2 ⟨⟨bK2, hps⟩, hB5⟩ hK5
      have hl2 : ys2.length = E.length := by
        have e1 := congrArg List.length hys2
        have e2 := congrArg List.length hEm
        simp [G2.hks] at e1
        simp at e2
        omega
      rw [hl2] at bK2
      have hps2 : (E.length : Int) ≤ s := by rw [← hl2]; exact hps
      have hs5 := (hB5.block _ (Array.getElem?_eq_some_iff.1 HS5.out).1).trans HS5.out
      have c5 : W5.cell? ⟨w.heap.size + 1, 0, none⟩ = some (.int .u8 s) := by simp [World.cell?, hs5]
      have hr4 := (hB5.block _ (Array.getElem?_eq_some_iff.1 HR4.out).1).trans HR4.out
      have c4 : W5.cell? ⟨w.heap.size + 1 + 1, 0, none⟩ = some (.bool false) := by simp [World.cell?, hr4]
      have f4 : W5.frozen? ⟨w.heap.size + 1 + 1, 0, none⟩ = false := by simp [World.frozen?, hr4]
      have hlb : Boxed W5 w3.heap.size 22 (.slice (some ⟨g, 0, none⟩) E.length lc) := (hB5.block _ (Array.getElem?_eq_some_iff.1 HLB.out).1).trans HLB.out
      have cl := hlb.cell
      have ck := bK2.cell
      have hw1 : IntKind.i64.wrap (s + 1) = s + 1 := IntWalk.i64_in _ (by omega)
      have hw2 : IntKind.i64.wrap s = s := IntWalk.i64_in _ (by omega)
      have hmn : min (s + 1) (E.length : Int) = (E.length : Int) := by omega
      have HK5 := Lib.hid hK5
      have HKD5 : Hid (W5.heap[D]? = some (.deferred (some []))) := Lib.hid ((hB5.block _ (Array.getElem?_eq_some_iff.1 HKD.out).1).trans HKD.out)
      have HB5 := Lib.hid hB5
      have hDv : D < w'.heap.size := (Array.getElem?_eq_some_iff.1 HKD.out).1
      gi_wp2
      have hX5 : (W5.setCell ⟨w.heap.size + 1 + 1, 0, none⟩ (.bool true)).heap[D2]? = some (.deferred (some [])) := (Below.heap_setCell _ _ _ _ (by show D2 ≠ w.heap.size + 1 + 1; omega)).trans HK5.out
      have hXD : (W5.setCell ⟨w.heap.size + 1 + 1, 0, none⟩ (.bool true)).heap[D]? = some (.deferred (some [])) := (Below.heap_setCell _ _ _ _ (by show D ≠ w.heap.size + 1 + 1; omega)).trans HKD5.out
      have hRC : (W5.setCell ⟨w.heap.size + 1 + 1, 0, none⟩ (.bool true)).cell? ⟨w.heap.size + 1 + 1, 0, none⟩ = some (.bool true) := World.cell?_setCell_same' _ _ _ (by rw [c4]; rfl)
      have hBX : Below w.heap.size w (W5.setCell ⟨w.heap.size + 1 + 1, 0, none⟩ (.bool true)) := (hBV.trans (HB5.out.mono hBV.size)).setCell (by show w.heap.size ≤ w.heap.size + 1 + 1; omega) _
      refine ⟨by simp, .inl ⟨_, _, rfl, run_takeDeferred hX5, ?_⟩⟩
      have hcc := cell_kept hRC (grownBy_putObj' (W5.setCell ⟨w.heap.size + 1 + 1, 0, none⟩ (.bool true)) D2 (.deferred none)) (fun r e => by cases e; exact ⟨_, hX5, rfl⟩)
      have hXD2 : ((W5.setCell ⟨w.heap.size + 1 + 1, 0, none⟩ (.bool true)).putObj D2 (.deferred none)).heap[D]? = some (.deferred (some [])) := (World.putObj_heap_other (by omega)).trans hXD
      refine ⟨by simp, .inl ⟨_, _, rfl, run_takeDeferred hXD2, ?_⟩⟩
      have hcd := cell_kept hcc (grownBy_putObj' ((W5.setCell ⟨w.heap.size + 1 + 1, 0, none⟩ (.bool true)).putObj D2 (.deferred none)) D (.deferred none)) (fun r e => by cases e; exact ⟨_, hXD2, rfl⟩)
      exact ⟨.bool true, by simp [results, Tryz.results9, go_sem, hcd], rfl, (hBX.trans (belowK_b (w := w) (Nat.le_refl _) _ D2 _ _ (by omega) hX5 rfl rfl)).trans (belowK_b (w := w) (Nat.le_refl _) _ D _ _ (by omega) hXD2 rfl rfl)⟩
    case stop2 =>
      rintro D2 c pre W5 hD2 hpre ⟨rfl, bK2, hps, hB5⟩ hK5
      have hle : pre.length ≤ E.length := by
        obtain ⟨q, hq⟩ := hpre
        have e1 := congrArg List.length hq
        have e2 := congrArg List.length hEm
        simp [G2.hks] at e1
        simp at e2
        omega
      have hps2 : (pre.length : Int) = s + 1 := hps
      rw [hps2] at bK2
      have hs5 := (hB5.block _ (Array.getElem?_eq_some_iff.1 HS5.out).1).trans HS5.out
      have c5 : W5.cell? ⟨w.heap.size + 1, 0, none⟩ = some (.int .u8 s) := by simp [World.cell?, hs5]
      have hr4 := (hB5.block _ (Array.getElem?_eq_some_iff.1 HR4.out).1).trans HR4.out
      have c4 : W5.cell? ⟨w.heap.size + 1 + 1, 0, none⟩ = some (.bool false) := by simp [World.cell?, hr4]
      have f4 : W5.frozen? ⟨w.heap.size + 1 + 1, 0, none⟩ = false := by simp [World.frozen?, hr4]
      have hlb : Boxed W5 w3.heap.size 22 (.slice (some ⟨g, 0, none⟩) E.length lc) := (hB5.block _ (Array.getElem?_eq_some_iff.1 HLB.out).1).trans HLB.out
      have cl := hlb.cell
      have ck := bK2.cell
      have hw1 : IntKind.i64.wrap (s + 1) = s + 1 := IntWalk.i64_in _ (by omega)
      have hw2 : IntKind.i64.wrap s = s := IntWalk.i64_in _ (by omega)
      have hmn : min (s + 1) (E.length : Int) = s + 1 := by omega
      have HK5 := Lib.hid hK5
      have HKD5 : Hid (W5.heap[D]? = some (.deferred (some []))) := Lib.hid ((hB5.block _ (Array.getElem?_eq_some_iff.1 HKD.out).1).trans HKD.out)
      have HB5 := Lib.hid hB5
      have hDv : D < w'.heap.size := (Array.getElem?_eq_some_iff.1 HKD.out).1
      gi_wp2
      have hX5 : (W5.setCell ⟨w.heap.size + 1 + 1, 0, none⟩ (.bool true)).heap[D2]? = some (.deferred (some [])) := (Below.heap_setCell _ _ _ _ (by show D2 ≠ w.heap.size + 1 + 1; omega)).trans HK5.out
      have hXD : (W5.setCell ⟨w.heap.size + 1 + 1, 0, none⟩ (.bool true)).heap[D]? = some (.deferred (some [])) := (Below.heap_setCell _ _ _ _ (by show D ≠ w.heap.size + 1 + 1; omega)).trans HKD5.out
      have hRC : (W5.setCell ⟨w.heap.size + 1 + 1, 0, none⟩ (.bool true)).cell? ⟨w.heap.size + 1 + 1, 0, none⟩ = some (.bool true) := World.cell?_setCell_same' _ _ _ (by rw [c4]; rfl)
      have hBX : Below w.heap.size w (W5.setCell ⟨w.heap.size + 1 + 1, 0, none⟩ (.bool true)) := (hBV.trans (HB5.out.mono hBV.size)).setCell (by show w.heap.size ≤ w.heap.size + 1 + 1; omega) _
      refine ⟨by simp, .inl ⟨_, _, rfl, run_takeDeferred hX5, ?_⟩⟩
      have hcc := cell_kept hRC (grownBy_putObj' (W5.setCell ⟨w.heap.size + 1 + 1, 0, none⟩ (.bool true)) D2 (.deferred none)) (fun r e => by cases e; exact ⟨_, hX5, rfl⟩)
      have hXD2 : ((W5.setCell ⟨w.heap.size + 1 + 1, 0, none⟩ (.bool true)).putObj D2 (.deferred none)).heap[D]? = some (.deferred (some [])) := (World.putObj_heap_other (by omega)).trans hXD
      refine ⟨by simp, .inl ⟨_, _, rfl, run_takeDeferred hXD2, ?_⟩⟩
      have hcd := cell_kept hcc (grownBy_putObj' ((W5.setCell ⟨w.heap.size + 1 + 1, 0, none⟩ (.bool true)).putObj D2 (.deferred none)) D (.deferred none)) (fun r e => by cases e; exact ⟨_, hXD2, rfl⟩)
      exact ⟨.bool true, by simp [results, Tryz.results9, go_sem, hcd], rfl, (hBX.trans (belowK_b (w := w) (Nat.le_refl _) _ D2 _ _ (by omega) hX5 rfl rfl)).trans (belowK_b (w := w) (Nat.le_refl _) _ D _ _ (by omega) hXD2 rfl rfl)⟩
  case stop =>
    rintro D c pre W hD hpre ⟨rfl, pre0, x, rfl, hx⟩ hK
    exfalso
    apply hx
    obtain ⟨t, ht⟩ := hpre
    rw [← ht, G2.hks_app]
    simp [G2.hks]
end Go.Proofs.YticbcnhbpbaocaaGreatDoor
