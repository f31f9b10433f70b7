/-
  The program's program (of the reader).
  The program's read: the deferred function, the panics.
  The program's read, where a program stands.
-/
import Derived.Test.YtlkaeonedijfpaaQK
import Derived.Defers
import Derived.Recover
set_option linter.all false
namespace Go.Proofs.Ytlkaeonedijfpaa
open Go.RowKit C
abbrev zPg : Obj := .cells #[.slice none 0 0, .slice none 0 0, .slice none 0 0, .int .i64 0] 31
theorem infoPg4 : (Try.prog.info? 31).map (·.size) = some 4 := by kernel_rfl
theorem el_row {α : Type} {k : Nat} {R : World → α → Nat → Nat → Prop} {B : Nat} {w : World} {X : Option Nat} {l : List α} {A : Option Addr} {n c : Nat} (h : El k R B w X l (.slice A n c)) : n = l.length ∧ l.length ≤ c ∧ Row k (R w) A l := by
  obtain ⟨A', cap, hv, hc, hh⟩ := h
  cases hv
  refine ⟨rfl, hc, ?_⟩
  rcases hh with e | ⟨g, hA, h1, h2, h3, h4⟩
  · exact .inl e
  · exact .inr ⟨g, 0, hA, fun i hi => by rw [Nat.zero_add]; exact h4 i hi⟩
theorem ly_of {B : Nat} {w : World} {x : List Int} {g o : Nat} (h : LyN B w x g o) : LyAt w (x.take 65) g o := by
  obtain ⟨hg, v, hc, he⟩ := h
  obtain ⟨A, cap, hv, _⟩ := id he
  subst hv
  obtain ⟨_, h2, h3⟩ := el_row he
  exact ⟨hg, A, cap, hc, h2, by rw [List.length_take]; unfold maxLen; omega, h3⟩
theorem fn_of {B : Nat} {w : World} {x : Fc} {g o : Nat} (h : FnN B w x g o) : FnAt w (cutF x) g o := by
  obtain ⟨hg, c0, c1, c2, ⟨v, hc, he⟩, s0, b1, b2⟩ := h
  obtain ⟨A, cap, hv, _⟩ := id he
  subst hv
  obtain ⟨_, h2, h3⟩ := el_row he
  exact ⟨hg, c0, c1, c2, ⟨A, cap, hc, h2, by show (x.code.take 1001).length ≤ maxLen; rw [List.length_take]; unfold maxLen; omega, h3⟩, s0, b1, b2⟩
theorem El.form {α : Type} {k : Nat} {R : World → α → Nat → Nat → Prop} {B : Nat} {w : World} {X : Option Nat} {l : List α} {v : Value} (h : El k R B w X l v) : ∃ A c, v = .slice A l.length c := by
  obtain ⟨A, c, hv, _⟩ := h
  exact ⟨A, c, hv⟩
theorem pg_of {B1 B2 B3 : Nat} {w : World} {f : List Fc} {g : List Gl} {y : List (List Int)} {m : Int} {A B D : Option Addr} {na nb nd ca cb cd : Nat} (h1 : El 2 GlAt B1 w none (g.take 65) (.slice B nb cb)) (h2 : El 1 (LyN B2) B2 w none (y.take 33) (.slice D nd cd)) (h3 : El 4 (FnN B3) B3 w none (f.take 65) (.slice A na ca)) (hm : C.I64 m) :
    (na = (cutP ⟨f, g, y, m⟩).funcs.length ∧ nb = (cutP ⟨f, g, y, m⟩).globals.length ∧ nd = (cutP ⟨f, g, y, m⟩).layouts.length) ∧ PgAt w (cutP ⟨f, g, y, m⟩) A B D ca cb cd := by
  have k3 := el_row (h3.imp (S := FnAt) cutF fun _ _ _ _ h => fn_of h)
  have k2 := el_row (h2.imp (S := LyAt) (fun x : List Int => x.take 65) fun _ _ _ _ h => ly_of h)
  have k1 := el_row h1
  rw [List.map_take] at k3 k2
  have l1 : (g.take 65).length ≤ 65 := by rw [List.length_take]; omega
  have l2 : ((y.map fun x : List Int => x.take 65).take 33).length ≤ 33 := by rw [List.length_take]; omega
  have l3 : ((f.map cutF).take 65).length ≤ 65 := by rw [List.length_take]; omega
  have hmx : ∀ n, n ≤ 65 → n ≤ maxLen := fun n h => by unfold maxLen; omega
  exact ⟨⟨k3.1, k1.1, k2.1⟩, k3.2.2, k1.2.2, k2.2.2, hm, ⟨k3.2.1, hmx _ l3⟩, ⟨k1.2.1, hmx _ l1⟩, ⟨k2.2.1, hmx _ (Nat.le_trans l2 (by omega))⟩⟩
/-- What stands from a number on. -/
def Stab (B : Nat) (W V : World) : Prop := W.heap.size ≤ V.heap.size ∧ ∀ g, B ≤ g → g < W.heap.size → V.heap[g]? = W.heap[g]?
theorem El.stab {α : Type} {k : Nat} {R : World → α → Nat → Nat → Prop} {B B0 : Nat} {w w' : World} {X : Option Nat} {l : List α} {v : Value} (h : El k R B w X l v) (hR : Loc R) (hs : Stab B0 w w') (hb : B0 ≤ B) : El k R B w' X l v :=
  h.keep hR (fun g h1 h2 h3 => ⟨hs.2 g (by omega) h2, h3⟩) hs.1
theorem El.deepS {α : Type} {k : Nat} {R : World → α → Nat → Nat → Prop} {B : Nat} {w w' : World} {X : Option Nat} {l : List α} {v : Value} (h : El k R B w X l v) (hs : w.heap.size ≤ w'.heap.size) (hR : ∀ x g o, B ≤ g → g < w.heap.size → R w x g o → R w' x g o) : El k R B w' X l v := by
  obtain ⟨A, cap, hv, hc, hh⟩ := h
  refine ⟨A, cap, hv, hc, ?_⟩
  rcases hh with e | ⟨g, hA, h1, h2, h3, h4⟩
  · exact .inl e
  · exact .inr ⟨g, hA, h1, by omega, h3, fun i hi => hR _ _ _ h1 h2 (h4 i hi)⟩
theorem lyN_stab {B B0 : Nat} {w w' : World} (hs : Stab B0 w w') (hb : B0 ≤ B) : ∀ x g o, B ≤ g → g < w.heap.size → LyN B w x g o → LyN B w' x g o := by
  rintro x g o h1 h2 ⟨_, v, hc, he⟩
  have hk := hs.2 g (show B0 ≤ g by omega) h2
  exact ⟨by have := hs.1; omega, v, by rw [World.cell?_of_block hk]; exact hc, he.stab loc_int hs hb⟩
theorem fnN_stab {B B0 : Nat} {w w' : World} (hs : Stab B0 w w') (hb : B0 ≤ B) : ∀ x g o, B ≤ g → g < w.heap.size → FnN B w x g o → FnN B w' x g o := by
  rintro x g o h1 h2 ⟨_, c0, c1, c2, ⟨v, hc, he⟩, r⟩
  have hk := hs.2 g (show B0 ≤ g by omega) h2
  exact ⟨by have := hs.1; omega, by rw [World.cell?_of_block hk]; exact c0, by rw [World.cell?_of_block hk]; exact c1, by rw [World.cell?_of_block hk]; exact c2, ⟨v, by rw [World.cell?_of_block hk]; exact hc, he.stab loc_in hs hb⟩, r⟩
theorem Mv.trans' {w w1 w2 : World} {rb : Nat} (h : Mv w w1 rb) (h1 : Mv w1 w2 rb) : Mv w w2 rb := h.trans h1
theorem World.grownBy.trans' {w w1 w2 : World} {r : Option Nat} (h : w.grownBy w1 r) (h1 : w1.grownBy w2 r) : w.grownBy w2 r := grown_trans h h1 fun k hk => .inl hk
theorem grown_keep {w V W : World} {rb b : Nat} {o : Obj} (_ : Mv w V rb) (hb : V.heap[b]? = some o) (h : Mv V W rb) (hne : b ≠ rb) : W.heap[b]? = some o := (h.keep (Array.getElem?_eq_some_iff.1 hb).1 hne).trans hb
def PGives (w0 w : World) (rb : Nat) (o : Option (Pg × Bs)) (e : Ending) (w' : World) : Prop :=
  match o with
  | none => e = PE ∧ Mv w w' rb
  | some (p, l') => ∃ A B D ca cb cd, e = .returned (pv (cutP p) A B D ca cb cd) ∧ Rd w0 w' rb l' ∧ Mv w w' rb ∧ ∀ V, Stab (w.heap.size + 1) w' V → PgAt V (cutP p) A B D ca cb cd
set_option maxRecDepth 100000 in
set_option maxHeartbeats 4000000 in
theorem opg_none1 (w0 w : World) (rb : Nat) (l : Bs) (h : Rd w0 w rb l)  (h1 : listD glD l = none) :
    Calls Try.prog 50 #[.pointer (some ⟨rb, 0, none⟩)] w fun e w' => e = PE ∧ Mv w w' rb := by
  have hmf : ∀ (fn : Fn) (first cap : Array Value) (w : World), (Instr.makeFunc fn first cap).run Try.prog w = .ok (.func fn first cap) w := fun _ _ _ _ => rfl
  have hw0 := h.bel.size
  have hlt := h.lt
  have HR0 := Lib.hid (h.alloc zPg)
  have HM0 : Hid (Mv w (w.alloc zPg) rb) := Lib.hid ((Mv.refl w rb).alloc zPg)
  have HX0 := Lib.hid (heap_alloc_new w zPg)
  have N1 := Lib.hid h1
  clear h h1
  go_enter Try.func50, Try.ntmps50
  have H1 := olgl_gives w0 (w.alloc zPg) rb l HR0.out
  rw [N1.out] at H1
  have HH1 := Lib.hid H1
  clear H1
  go_wp2_with fail
  refine HH1.out.mono ?_
  rintro e w1 ⟨rfl, hm1⟩
  have HMM := Lib.hid (HM0.out.trans hm1)
  clear hm1
  go_wp2
  exact ⟨rfl, rfl, HMM.out⟩
set_option maxRecDepth 100000 in
set_option maxHeartbeats 4000000 in
theorem opg_none2 (w0 w : World) (rb : Nat) (l r1 : Bs) (gl : List Gl) (h : Rd w0 w rb l) (h1 : listD glD l = some (gl, r1)) (h2 : listD lyD r1 = none) :
    Calls Try.prog 50 #[.pointer (some ⟨rb, 0, none⟩)] w fun e w' => e = PE ∧ Mv w w' rb := by
  have hmf : ∀ (fn : Fn) (first cap : Array Value) (w : World), (Instr.makeFunc fn first cap).run Try.prog w = .ok (.func fn first cap) w := fun _ _ _ _ => rfl
  have hw0 := h.bel.size
  have hlt := h.lt
  have HR0 := Lib.hid (h.alloc zPg)
  have HM0 : Hid (Mv w (w.alloc zPg) rb) := Lib.hid ((Mv.refl w rb).alloc zPg)
  have HX0 := Lib.hid (heap_alloc_new w zPg)
  have N1 := Lib.hid h1
  have N2 := Lib.hid h2
  clear h h1 h2
  go_enter Try.func50, Try.ntmps50
  have H1 := olgl_gives w0 (w.alloc zPg) rb l HR0.out
  rw [N1.out] at H1
  have HH1 := Lib.hid H1
  clear H1
  go_wp2_with fail
  refine HH1.out.mono ?_
  rintro e w1 ⟨v1, rfl, hr1, hm1, he1⟩
  have HR1 := Lib.hid hr1
  have HD1 := Lib.hid hm1
  have HM1 := Lib.hid (HM0.out.trans hm1)
  have HE1 := Lib.hid he1
  clear hr1 hm1 he1
  have H2 := olly_gives w0 w1 rb r1 HR1.out
  rw [N2.out] at H2
  have HH2 := Lib.hid H2
  clear H2
  go_wp2_with fail
  refine HH2.out.mono ?_
  rintro e w2 ⟨rfl, hm2⟩
  have HMM := Lib.hid (HM1.out.trans hm2)
  clear hm2
  go_wp2
  exact ⟨rfl, rfl, HMM.out⟩
set_option maxRecDepth 100000 in
set_option maxHeartbeats 4000000 in
theorem opg_none3 (w0 w : World) (rb : Nat) (l r1 r2 : Bs) (gl : List Gl) (ly : List (List Int)) (h : Rd w0 w rb l) (h1 : listD glD l = some (gl, r1)) (h2 : listD lyD r1 = some (ly, r2)) (h3 : listD fnD r2 = none) :
    Calls Try.prog 50 #[.pointer (some ⟨rb, 0, none⟩)] w fun e w' => e = PE ∧ Mv w w' rb := by
  have hmf : ∀ (fn : Fn) (first cap : Array Value) (w : World), (Instr.makeFunc fn first cap).run Try.prog w = .ok (.func fn first cap) w := fun _ _ _ _ => rfl
  have hw0 := h.bel.size
  have hlt := h.lt
  have HR0 := Lib.hid (h.alloc zPg)
  have HM0 : Hid (Mv w (w.alloc zPg) rb) := Lib.hid ((Mv.refl w rb).alloc zPg)
  have HX0 := Lib.hid (heap_alloc_new w zPg)
  have N1 := Lib.hid h1
  have N2 := Lib.hid h2
  have N3 := Lib.hid h3
  clear h h1 h2 h3
  go_enter Try.func50, Try.ntmps50
  have H1 := olgl_gives w0 (w.alloc zPg) rb l HR0.out
  rw [N1.out] at H1
  have HH1 := Lib.hid H1
  clear H1
  go_wp2_with fail
  refine HH1.out.mono ?_
  rintro e w1 ⟨v1, rfl, hr1, hm1, he1⟩
  have HR1 := Lib.hid hr1
  have HD1 := Lib.hid hm1
  have HM1 := Lib.hid (HM0.out.trans hm1)
  have HE1 := Lib.hid he1
  clear hr1 hm1 he1
  have H2 := olly_gives w0 w1 rb r1 HR1.out
  rw [N2.out] at H2
  have HH2 := Lib.hid H2
  clear H2
  go_wp2_with fail
  refine HH2.out.mono ?_
  rintro e w2 ⟨v2, rfl, hr2, hm2, he2⟩
  have HR2 := Lib.hid hr2
  have HD2 := Lib.hid hm2
  have HM2 := Lib.hid (HM1.out.trans hm2)
  have HE2 := Lib.hid he2
  clear hr2 hm2 he2
  have H3 := olfn_gives w0 w2 rb r2 HR2.out
  rw [N3.out] at H3
  have HH3 := Lib.hid H3
  clear H3
  go_wp2_with fail
  refine HH3.out.mono ?_
  rintro e w3 ⟨rfl, hm3⟩
  have HMM := Lib.hid (HM2.out.trans hm3)
  clear hm3
  go_wp2
  exact ⟨rfl, rfl, HMM.out⟩
set_option maxRecDepth 100000 in
set_option maxHeartbeats 4000000 in
theorem opg_none4 (w0 w : World) (rb : Nat) (l r1 r2 r3 : Bs) (gl : List Gl) (ly : List (List Int)) (fn : List Fc) (h : Rd w0 w rb l) (h1 : listD glD l = some (gl, r1)) (h2 : listD lyD r1 = some (ly, r2)) (h3 : listD fnD r2 = some (fn, r3)) (h4 : numD r3 = none) :
    Calls Try.prog 50 #[.pointer (some ⟨rb, 0, none⟩)] w fun e w' => e = PE ∧ Mv w w' rb := by
  have hmf : ∀ (fn : Fn) (first cap : Array Value) (w : World), (Instr.makeFunc fn first cap).run Try.prog w = .ok (.func fn first cap) w := fun _ _ _ _ => rfl
  have hw0 := h.bel.size
  have hlt := h.lt
  have HR0 := Lib.hid (h.alloc zPg)
  have HM0 : Hid (Mv w (w.alloc zPg) rb) := Lib.hid ((Mv.refl w rb).alloc zPg)
  have HX0 := Lib.hid (heap_alloc_new w zPg)
  have N1 := Lib.hid h1
  have N2 := Lib.hid h2
  have N3 := Lib.hid h3
  have N4 := Lib.hid h4
  clear h h1 h2 h3 h4
  go_enter Try.func50, Try.ntmps50
  have H1 := olgl_gives w0 (w.alloc zPg) rb l HR0.out
  rw [N1.out] at H1
  have HH1 := Lib.hid H1
  clear H1
  go_wp2_with fail
  refine HH1.out.mono ?_
  rintro e w1 ⟨v1, rfl, hr1, hm1, he1⟩
  have HR1 := Lib.hid hr1
  have HD1 := Lib.hid hm1
  have HM1 := Lib.hid (HM0.out.trans hm1)
  have HE1 := Lib.hid he1
  clear hr1 hm1 he1
  have H2 := olly_gives w0 w1 rb r1 HR1.out
  rw [N2.out] at H2
  have HH2 := Lib.hid H2
  clear H2
  go_wp2_with fail
  refine HH2.out.mono ?_
  rintro e w2 ⟨v2, rfl, hr2, hm2, he2⟩
  have HR2 := Lib.hid hr2
  have HD2 := Lib.hid hm2
  have HM2 := Lib.hid (HM1.out.trans hm2)
  have HE2 := Lib.hid he2
  clear hr2 hm2 he2
  have H3 := olfn_gives w0 w2 rb r2 HR2.out
  rw [N3.out] at H3
  have HH3 := Lib.hid H3
  clear H3
  go_wp2_with fail
  refine HH3.out.mono ?_
  rintro e w3 ⟨v3, rfl, hr3, hm3, he3⟩
  have HR3 := Lib.hid hr3
  have HD3 := Lib.hid hm3
  have HM3 := Lib.hid (HM2.out.trans hm3)
  have HE3 := Lib.hid he3
  clear hr3 hm3 he3
  have HH4 := Lib.hid (onum_none HR3.out N4.out)
  go_wp2_with fail
  refine HH4.out.mono ?_
  rintro e w4 ⟨rfl, hm4⟩
  have HMM := Lib.hid (HM3.out.trans hm4)
  clear hm4
  go_wp2
  exact ⟨rfl, rfl, HMM.out⟩
set_option maxRecDepth 100000 in
set_option maxHeartbeats 4000000 in
theorem opg_some (w0 w : World) (rb : Nat) (l r1 r2 r3 r4 : Bs) (gl : List Gl) (ly : List (List Int)) (fn : List Fc) (m : Int) (h : Rd w0 w rb l) (h1 : listD glD l = some (gl, r1)) (h2 : listD lyD r1 = some (ly, r2)) (h3 : listD fnD r2 = some (fn, r3)) (h4 : numD r3 = some (m, r4)) :
    Calls Try.prog 50 #[.pointer (some ⟨rb, 0, none⟩)] w (PGives w0 w rb (some (⟨fn, gl, ly, m⟩, r4))) := by
  have hmf : ∀ (fn : Fn) (first cap : Array Value) (w : World), (Instr.makeFunc fn first cap).run Try.prog w = .ok (.func fn first cap) w := fun _ _ _ _ => rfl
  have hw0 := h.bel.size
  have hlt := h.lt
  have HR0 := Lib.hid (h.alloc zPg)
  have HM0 : Hid (Mv w (w.alloc zPg) rb) := Lib.hid ((Mv.refl w rb).alloc zPg)
  have HX0 := Lib.hid (heap_alloc_new w zPg)
  have HMI : Hid (C.I64 m) := Lib.hid (numD_len h4).2
  have N1 := Lib.hid h1
  have N2 := Lib.hid h2
  have N3 := Lib.hid h3
  have N4 := Lib.hid h4
  clear h h1 h2 h3 h4
  go_enter Try.func50, Try.ntmps50
  have H1 := olgl_gives w0 (w.alloc zPg) rb l HR0.out
  rw [N1.out] at H1
  have HH1 := Lib.hid H1
  clear H1
  go_wp2_with fail
  refine HH1.out.mono ?_
  rintro e w1 ⟨v1, rfl, hr1, hm1, he1⟩
  have HR1 := Lib.hid hr1
  have HD1 := Lib.hid hm1
  have HM1 := Lib.hid (HM0.out.trans hm1)
  have HE1 := Lib.hid he1
  clear hr1 hm1 he1
  have H2 := olly_gives w0 w1 rb r1 HR1.out
  rw [N2.out] at H2
  have HH2 := Lib.hid H2
  clear H2
  go_wp2_with fail
  refine HH2.out.mono ?_
  rintro e w2 ⟨v2, rfl, hr2, hm2, he2⟩
  have HR2 := Lib.hid hr2
  have HD2 := Lib.hid hm2
  have HM2 := Lib.hid (HM1.out.trans hm2)
  have HE2 := Lib.hid he2
  clear hr2 hm2 he2
  have H3 := olfn_gives w0 w2 rb r2 HR2.out
  rw [N3.out] at H3
  have HH3 := Lib.hid H3
  clear H3
  go_wp2_with fail
  refine HH3.out.mono ?_
  rintro e w3 ⟨v3, rfl, hr3, hm3, he3⟩
  have HR3 := Lib.hid hr3
  have HD3 := Lib.hid hm3
  have HM3 := Lib.hid (HM2.out.trans hm3)
  have HE3 := Lib.hid he3
  clear hr3 hm3 he3
  have HH4 := Lib.hid (onum_some HR3.out N4.out)
  go_wp2_with fail
  refine HH4.out.mono ?_
  rintro e w4 ⟨rfl, hr4, hm4⟩
  have HR4 := Lib.hid hr4
  have HM4 := Lib.hid (HM3.out.trans hm4)
  have hs1 := HD1.out.size
  have hs2 := HD2.out.size
  simp only [World.size_alloc] at hs1
  have hrb1 : rb < (w.alloc zPg).heap.size := by simp; omega
  have hrb2 : rb < w1.heap.size := by omega
  have hrb3 : rb < w2.heap.size := by omega
  have E1 : Hid (El 2 GlAt (w.alloc zPg).heap.size w4 none (gl.take 65) v1) := Lib.hid (((HE1.out.mv loc_gl HD2.out hrb1).mv loc_gl HD3.out hrb1).mv loc_gl hm4 hrb1)
  have E2 : Hid (El 1 (LyN w1.heap.size) w1.heap.size w4 none (ly.take 33) v2) := Lib.hid ((HE2.out.deep HD3.out (lyN_mv HD3.out hrb2)).deep hm4 (lyN_mv hm4 hrb2))
  have E3 : Hid (El 4 (FnN w2.heap.size) w2.heap.size w4 none (fn.take 65) v3) := Lib.hid (HE3.out.deep hm4 (fnN_mv hm4 hrb3))
  have hb : w4.heap[w.heap.size]? = some zPg := (grown_keep HM0.out HX0.out (((HD1.out.trans HD2.out).trans HD3.out).trans hm4) (by omega))
  obtain ⟨⟨c0, c1, c2, c3⟩, z0, z1, z2, z3⟩ := cells4 hb
  have HB := Lib.hid hb
  obtain ⟨B, cb, hv1⟩ := E1.out.form
  obtain ⟨D, cd, hv2⟩ := E2.out.form
  obtain ⟨A, ca, hv3⟩ := E3.out.form
  obtain ⟨n1, hn1⟩ : ∃ n, (gl.take 65).length = n := ⟨_, rfl⟩
  obtain ⟨n2, hn2⟩ : ∃ n, (ly.take 33).length = n := ⟨_, rfl⟩
  obtain ⟨n3, hn3⟩ : ∃ n, (fn.take 65).length = n := ⟨_, rfl⟩
  rw [hn1] at hv1
  rw [hn2] at hv2
  rw [hn3] at hv3
  subst hv1 hv2 hv3
  clear hr4 hm4 hb hn1 hn2 hn3
  go_wp2
  refine bodyPost_ret (results_cell_row rfl _ _ w.heap.size 31 #[.slice A n3 ca, .slice B n1 cb, .slice D n2 cd, .int .i64 m] (0, 0) _ rfl (by simp [World.setCell, Array.getElem?_modify, HB.out]) Try.underlying31 rfl infoPg4) rfl ?_
  have hz : w.heap.size ≠ rb := by omega
  have hBig : ∀ g, (w.alloc zPg).heap.size ≤ g → g ≠ w.heap.size := fun g hg => by simp at hg; omega
  have kp : ∀ g, (w.alloc zPg).heap.size ≤ g → ((((w4.setCell ⟨w.heap.size, 0, none⟩ (.slice A n3 ca)).setCell ⟨w.heap.size, 1, none⟩ (.slice B n1 cb)).setCell ⟨w.heap.size, 2, none⟩ (.slice D n2 cd)).setCell ⟨w.heap.size, 3, none⟩ (.int .i64 m)).heap[g]? = w4.heap[g]? := fun g hg => by
    rw [heap_setCell_other _ _ _ _ (hBig g hg), heap_setCell_other _ _ _ _ (hBig g hg), heap_setCell_other _ _ _ _ (hBig g hg), heap_setCell_other _ _ _ _ (hBig g hg)]
  have hMv : Mv w4 ((((w4.setCell ⟨w.heap.size, 0, none⟩ (.slice A n3 ca)).setCell ⟨w.heap.size, 1, none⟩ (.slice B n1 cb)).setCell ⟨w.heap.size, 2, none⟩ (.slice D n2 cd)).setCell ⟨w.heap.size, 3, none⟩ (.int .i64 m)) w.heap.size :=
    Mv.trans (Mv.trans (Mv.trans (grown_set _ _ _ _) (grown_set _ _ _ _)) (grown_set _ _ _ _)) (grown_set _ _ _ _)
  have F1 := E1.out.mv loc_gl hMv (by simp)
  have F2 := E2.out.deep hMv (lyN_mv hMv (by omega))
  have F3 := E3.out.deep hMv (fnN_mv hMv (by omega))
  obtain ⟨⟨e1, e2, e3⟩, _⟩ := pg_of F1 F2 F3 HMI.out
  refine ⟨A, B, D, ca, cb, cd, by rw [e1, e2, e3]; rfl, ?_, ?_, fun V hV => (pg_of (F1.stab loc_gl hV (by simp)) (F2.deepS hV.1 (lyN_stab hV (by omega))) (F3.deepS hV.1 (fnN_stab hV (by omega))) HMI.out).2⟩
  · exact (((HR4.out.other hz hw0).other hz hw0).other hz hw0).other hz hw0
  · exact (((HM4.out.other (Nat.le_refl _)).other (Nat.le_refl _)).other (Nat.le_refl _)).other (Nat.le_refl _)
theorem opg_gives (w0 w : World) (rb : Nat) (l : Bs) (h : Rd w0 w rb l) : Calls Try.prog 50 #[.pointer (some ⟨rb, 0, none⟩)] w (PGives w0 w rb (pgD l)) := by
  unfold pgD
  cases h1 : listD glD l with
  | none => exact opg_none1 w0 w rb l h h1
  | some q =>
  obtain ⟨g, r1⟩ := q
  simp only
  cases h2 : listD lyD r1 with
  | none => exact opg_none2 w0 w rb l r1 g h h1 h2
  | some q =>
  obtain ⟨y, r2⟩ := q
  simp only
  cases h3 : listD fnD r2 with
  | none => exact opg_none3 w0 w rb l r1 r2 g y h h1 h2 h3
  | some q =>
  obtain ⟨f, r3⟩ := q
  simp only
  cases h4 : numD r3 with
  | none => exact opg_none4 w0 w rb l r1 r2 r3 g y f h h1 h2 h3 h4
  | some q =>
  obtain ⟨m, r4⟩ := q
  exact opg_some w0 w rb l r1 r2 r3 r4 g y f m h h1 h2 h3 h4
end Go.Proofs.Ytlkaeonedijfpaa

namespace Go.Proofs.Ytlkaeonedijfpaa
open Go.RowKit C
theorem catch_panic (pb eb : Nat) (u : TypeId) (pv' : Value) (older : List PanicEntry) (w : World) (a0 a1 a2 a3 x : Value) (hp : w.heap[pb]? = some (.cells #[a0, a1, a2, a3] 31 (0, 0))) (he : w.heap[eb]? = some (.cells #[x] 32 (0, 0))) (hne : pb ≠ eb) :
    CallsD Try.prog 49 #[.pointer (some ⟨pb, 0, none⟩), .pointer (some ⟨eb, 0, none⟩)] (.panicking ({ v := .iface u pv', recovered := false } :: older)) w fun e u' w' =>
      e = .returned (.tuple #[]) ∧ u' = .panicking ({ v := .iface u pv', recovered := true } :: older) ∧ w' = ((((w.setCell ⟨pb, 0, none⟩ (.slice none 0 0)).setCell ⟨pb, 1, none⟩ (.slice none 0 0)).setCell ⟨pb, 2, none⟩ (.slice none 0 0)).setCell ⟨pb, 3, none⟩ (.int .i64 0)).setCell ⟨eb, 0, none⟩ (.int .i64 8) := by
  obtain ⟨⟨c0, c1, c2, c3⟩, z0, z1, z2, z3⟩ := cells4 hp
  have e0 : w.cell? ⟨eb, 0, none⟩ = some x := by simp [World.cell?, he]
  have y0 : w.frozen? ⟨eb, 0, none⟩ = false := by simp [World.frozen?, he]
  have hne2 : eb ≠ pb := fun e => hne e.symm
  refine callsD_of_wpS Try.func49 rfl fun c₀ cs hu => ?_
  apply wpS_seq
  apply wpS_region
  simp [wpOpsS, go_sem, recoverD, hu, Try.ntmps49, Exit.thenS]
  refine wpS_cond (t := true) (by simp [Act.eval, Array.replicate]) ?_
  simp only [if_true]
  apply wpS_region
  simp [wpOpsS, go_sem, c0, c1, c2, c3, z0, z1, z2, z3, e0, y0, hne, hne2, bodyPostS, results, Try.results49]
theorem catch_idle (pb eb : Nat) (w : World) :
    CallsD Try.prog 49 #[.pointer (some ⟨pb, 0, none⟩), .pointer (some ⟨eb, 0, none⟩)] .returning w fun e u' w' => e = .returned (.tuple #[]) ∧ u' = .returning ∧ w' = w := by
  refine callsD_of_wpS Try.func49 rfl fun c₀ cs hu => ?_
  apply wpS_seq
  apply wpS_region
  simp [wpOpsS, go_sem, recoverD, hu, Try.ntmps49, Exit.thenS]
  refine wpS_cond (t := false) (by simp [Act.eval, Array.replicate]) ?_
  simp only [Bool.false_eq_true, if_false]
  refine wpS_of_wp (wp_skip ?_)
  cases c₀
  simp_all [bodyPostS, results, Try.results49]
abbrev zEr : Obj := .cells #[.int .i64 0] 32
theorem Rd.start (w : World) (A : Option Addr) (l : Bs) (cap : Nat) (hc : l.length ≤ cap) (hm : cap ≤ maxLen) (hr : Row 1 (ByAt w) A l) (o1 o2 : Obj) : Rd w (((w.alloc o1).alloc o2).alloc (.cells #[.slice A l.length cap] 70)) (w.heap.size + 1 + 1) l := by
  refine ⟨⟨A, cap, ?_, hc, hm, hr⟩, ((below2 w o1 o2).alloc (by simp; omega) _), by omega⟩
  have := heap_alloc_new ((w.alloc o1).alloc o2) (.cells #[.slice A l.length cap] 70)
  simpa using this
theorem res_read (tmps : Array Value) (V : World) (pb eb : Nat) (a0 a1 a2 a3 : Value) (x : Int) (h2 : tmps.getD 2 undef = .pointer (some ⟨pb, 0, none⟩)) (h3 : tmps.getD 3 undef = .pointer (some ⟨eb, 0, none⟩)) (hp : V.heap[pb]? = some (.cells #[a0, a1, a2, a3] 31 (0, 0))) (he : V.heap[eb]? = some (.cells #[.int .i64 x] 32 (0, 0))) :
    (results Try.f30 tmps).run Try.prog V = .ok (.tuple #[.agg #[a0, a1, a2, a3], .int .i64 x]) V := by
  have h2' : tmps[2]?.getD undef = .pointer (some ⟨pb, 0, none⟩) := by simpa using h2
  have h3' : tmps[3]?.getD undef = .pointer (some ⟨eb, 0, none⟩) := by simpa using h3
  have e0 : V.cell? ⟨eb, 0, none⟩ = some (.int .i64 x) := by simp [World.cell?, he]
  obtain ⟨⟨c0, c1, c2, c3⟩, _⟩ := cells4 hp
  simp [results, Try.results30, h2', h3', asAddr, go_sem, e0, c0, c1, c2, c3]
abbrev emptyV : Value := .agg #[.slice none 0 0, .slice none 0 0, .slice none 0 0, .int .i64 0]
set_option maxRecDepth 100000 in
set_option maxHeartbeats 4000000 in
theorem read_none (w : World) (A : Option Addr) (l : Bs) (cap : Nat) (hc : l.length ≤ cap) (hm : cap ≤ maxLen) (hr : Row 1 (ByAt w) A l) (hd : pgD l = none) :
    Calls Try.prog 30 #[.slice A l.length cap] w fun e w' => e = .returned (.tuple #[emptyV, .int .i64 8]) ∧ Below w.heap.size w w' := by
  have hmf : ∀ (fn : Fn) (first cap : Array Value) (w : World), (Instr.makeFunc fn first cap).run Try.prog w = .ok (.func fn first cap) w := fun _ _ _ _ => rfl
  have H1 := opg_gives w _ _ l (Rd.start w A l cap hc hm hr zPg zEr)
  rw [hd] at H1
  have HH1 := Lib.hid H1
  have hb1 := heap2a w zPg zEr
  have hb2 := heapB w zPg zEr
  clear H1 hd hr
  go_enter_defers Try.func30, Try.ntmps30
  go_wp2_with fail
  refine HH1.out.mono ?_
  rintro e w1 ⟨rfl, hm1⟩
  have k1 : w1.heap[w.heap.size]? = some zPg := (hm1.keep (b := w.heap.size) (by simp; omega) (by omega)).trans ((heap_alloc_old _ _ (by simp; try omega)).trans hb1)
  have k2 : w1.heap[w.heap.size + 1]? = some zEr := (hm1.keep (b := w.heap.size + 1) (by simp) (by omega)).trans ((heap_alloc_old _ _ (by simp)).trans hb2)
  have K1 := Lib.hid k1
  have K2 := Lib.hid k2
  have HM := Lib.hid hm1
  clear hm1 hb1 hb2 k1 k2
  go_wp2
  refine leaves_cons (f := 49) (args := #[.pointer (some ⟨w.heap.size, 0, none⟩), .pointer (some ⟨w.heap.size + 1, 0, none⟩)]) (by simp) (by simp [go_sem]) ?_
  refine (catch_panic w.heap.size (w.heap.size + 1) 32 _ [] _ _ _ _ _ _ K1.out K2.out (by omega)).mono ?_
  rintro e u' w'' ⟨rfl, rfl, rfl⟩
  have hp : (((((w1.setCell ⟨w.heap.size, 0, none⟩ (.slice none 0 0)).setCell ⟨w.heap.size, 1, none⟩ (.slice none 0 0)).setCell ⟨w.heap.size, 2, none⟩ (.slice none 0 0)).setCell ⟨w.heap.size, 3, none⟩ (.int .i64 0)).setCell ⟨w.heap.size + 1, 0, none⟩ (.int .i64 8)).heap[w.heap.size]? = some (.cells #[.slice none 0 0, .slice none 0 0, .slice none 0 0, .int .i64 0] 31 (0, 0)) := by
    simp [World.setCell, Array.getElem?_modify, K1.out]
  have he : (((((w1.setCell ⟨w.heap.size, 0, none⟩ (.slice none 0 0)).setCell ⟨w.heap.size, 1, none⟩ (.slice none 0 0)).setCell ⟨w.heap.size, 2, none⟩ (.slice none 0 0)).setCell ⟨w.heap.size, 3, none⟩ (.int .i64 0)).setCell ⟨w.heap.size + 1, 0, none⟩ (.int .i64 8)).heap[w.heap.size + 1]? = some (.cells #[.int .i64 8] 32 (0, 0)) := by
    simp [World.setCell, Array.getElem?_modify, K2.out]
  have hB : Below w.heap.size w (((((w1.setCell ⟨w.heap.size, 0, none⟩ (.slice none 0 0)).setCell ⟨w.heap.size, 1, none⟩ (.slice none 0 0)).setCell ⟨w.heap.size, 2, none⟩ (.slice none 0 0)).setCell ⟨w.heap.size, 3, none⟩ (.int .i64 0)).setCell ⟨w.heap.size + 1, 0, none⟩ (.int .i64 8)) := by
    have h0 : Below w.heap.size w w1 := (((below2 w zPg zEr).alloc (by simp; omega) _)).grown HM.out (by simp; omega) (fun k hk => by cases hk; omega)
    exact ((((h0.setCell (p := ⟨w.heap.size, 0, none⟩) (Nat.le_refl _) _).setCell (p := ⟨w.heap.size, 1, none⟩) (Nat.le_refl _) _).setCell (p := ⟨w.heap.size, 2, none⟩) (Nat.le_refl _) _).setCell (p := ⟨w.heap.size, 3, none⟩) (Nat.le_refl _) _).setCell (p := ⟨w.heap.size + 1, 0, none⟩) (Nat.le_succ _) _
  generalize (((((w1.setCell ⟨w.heap.size, 0, none⟩ (.slice none 0 0)).setCell ⟨w.heap.size, 1, none⟩ (.slice none 0 0)).setCell ⟨w.heap.size, 2, none⟩ (.slice none 0 0)).setCell ⟨w.heap.size, 3, none⟩ (.int .i64 0)).setCell ⟨w.heap.size + 1, 0, none⟩ (.int .i64 8)) = V at hp he hB ⊢
  exact ⟨_, res_read _ V _ _ _ _ _ _ _ rfl rfl hp he, rfl, hB⟩
end Go.Proofs.Ytlkaeonedijfpaa

namespace Go.Proofs.Ytlkaeonedijfpaa
open Go.RowKit C
set_option maxRecDepth 100000 in
set_option maxHeartbeats 4000000 in
theorem read_more (w : World) (A : Option Addr) (l r : Bs) (cap : Nat) (p : Pg) (hc : l.length ≤ cap) (hm : cap ≤ maxLen) (hr : Row 1 (ByAt w) A l) (hd : pgD l = some (p, r)) (hne : 0 < r.length) :
    Calls Try.prog 30 #[.slice A l.length cap] w fun e w' => e = .returned (.tuple #[emptyV, .int .i64 8]) ∧ Below w.heap.size w w' := by
  have hmf : ∀ (fn : Fn) (first cap : Array Value) (w : World), (Instr.makeFunc fn first cap).run Try.prog w = .ok (.func fn first cap) w := fun _ _ _ _ => rfl
  have H1 := opg_gives w _ _ l (Rd.start w A l cap hc hm hr zPg zEr)
  rw [hd] at H1
  have HH1 := Lib.hid H1
  have hb1 := heap2a w zPg zEr
  have hb2 := heapB w zPg zEr
  clear H1 hd hr
  go_enter_defers Try.func30, Try.ntmps30
  go_wp2_with fail
  refine HH1.out.mono ?_
  rintro e w1 ⟨Ap, Bp, Dp, ca, cb, cd, rfl, hr1, hm1, hp1⟩
  have k1 : w1.heap[w.heap.size]? = some zPg := (hm1.keep (b := w.heap.size) (by simp; omega) (by omega)).trans ((heap_alloc_old _ _ (by simp; try omega)).trans hb1)
  have k2 : w1.heap[w.heap.size + 1]? = some zEr := (hm1.keep (b := w.heap.size + 1) (by simp) (by omega)).trans ((heap_alloc_old _ _ (by simp)).trans hb2)
  obtain ⟨Ar, capr, hbr, _, _, _⟩ := hr1.blk
  have hB1 : Below w.heap.size w w1 := (((below2 w zPg zEr).alloc (by simp; omega) _)).grown hm1 (by simp; omega) (fun k hk => by cases hk; omega)
  have hs1 := hm1.size
  simp only [World.size_alloc] at hs1
  have r0 : w1.cell? ⟨w.heap.size + 1 + 1, 0, none⟩ = some (.slice Ar r.length capr) := by simp [World.cell?, hbr]
  obtain ⟨⟨c0, c1, c2, c3⟩, z0, z1, z2, z3⟩ := cells4 k1
  have e0 : w1.cell? ⟨w.heap.size + 1, 0, none⟩ = some (.int .i64 0) := by simp [World.cell?, k2]
  have y0 : w1.frozen? ⟨w.heap.size + 1, 0, none⟩ = false := by simp [World.frozen?, k2]
  have K1 := Lib.hid k1
  have K2 := Lib.hid k2
  have HB1 := Lib.hid hB1
  have HP1 := Lib.hid hp1
  clear hm1 hb1 hb2 k1 k2 hbr hr1 hB1 hp1
  have hne2 : (0 : Int) < (r.length : Int) := by omega
  go_wp2
  have K1' : ((((w1.setCell ⟨w.heap.size, 0, none⟩ (.slice Ap (cutP p).funcs.length ca)).setCell ⟨w.heap.size, 1, none⟩ (.slice Bp (cutP p).globals.length cb)).setCell ⟨w.heap.size, 2, none⟩ (.slice Dp (cutP p).layouts.length cd)).setCell ⟨w.heap.size, 3, none⟩ (.int .i64 (cutP p).main)).heap[w.heap.size]? = some (.cells #[.slice Ap (cutP p).funcs.length ca, .slice Bp (cutP p).globals.length cb, .slice Dp (cutP p).layouts.length cd, .int .i64 (cutP p).main] 31 (0, 0)) := by simp [World.setCell, Array.getElem?_modify, K1.out]
  have K2' : ((((w1.setCell ⟨w.heap.size, 0, none⟩ (.slice Ap (cutP p).funcs.length ca)).setCell ⟨w.heap.size, 1, none⟩ (.slice Bp (cutP p).globals.length cb)).setCell ⟨w.heap.size, 2, none⟩ (.slice Dp (cutP p).layouts.length cd)).setCell ⟨w.heap.size, 3, none⟩ (.int .i64 (cutP p).main)).heap[w.heap.size + 1]? = some zEr := by simp [World.setCell, Array.getElem?_modify, K2.out]
  have HB' : Below w.heap.size w ((((w1.setCell ⟨w.heap.size, 0, none⟩ (.slice Ap (cutP p).funcs.length ca)).setCell ⟨w.heap.size, 1, none⟩ (.slice Bp (cutP p).globals.length cb)).setCell ⟨w.heap.size, 2, none⟩ (.slice Dp (cutP p).layouts.length cd)).setCell ⟨w.heap.size, 3, none⟩ (.int .i64 (cutP p).main)) := (((HB1.out.setCell (p := ⟨w.heap.size, 0, none⟩) (Nat.le_refl _) _).setCell (p := ⟨w.heap.size, 1, none⟩) (Nat.le_refl _) _).setCell (p := ⟨w.heap.size, 2, none⟩) (Nat.le_refl _) _).setCell (p := ⟨w.heap.size, 3, none⟩) (Nat.le_refl _) _
  generalize ((((w1.setCell ⟨w.heap.size, 0, none⟩ (.slice Ap (cutP p).funcs.length ca)).setCell ⟨w.heap.size, 1, none⟩ (.slice Bp (cutP p).globals.length cb)).setCell ⟨w.heap.size, 2, none⟩ (.slice Dp (cutP p).layouts.length cd)).setCell ⟨w.heap.size, 3, none⟩ (.int .i64 (cutP p).main)) = W1 at K1' K2' HB' ⊢
  refine leaves_cons (f := 49) (args := #[.pointer (some ⟨w.heap.size, 0, none⟩), .pointer (some ⟨w.heap.size + 1, 0, none⟩)]) (by simp) (by simp [go_sem]) ?_
  refine (catch_panic w.heap.size (w.heap.size + 1) 32 _ [] _ _ _ _ _ _ K1' K2' (by omega)).mono ?_
  rintro e u' w'' ⟨rfl, rfl, rfl⟩
  have hp : (((((W1.setCell ⟨w.heap.size, 0, none⟩ (.slice none 0 0)).setCell ⟨w.heap.size, 1, none⟩ (.slice none 0 0)).setCell ⟨w.heap.size, 2, none⟩ (.slice none 0 0)).setCell ⟨w.heap.size, 3, none⟩ (.int .i64 0)).setCell ⟨w.heap.size + 1, 0, none⟩ (.int .i64 8)).heap[w.heap.size]? = some (.cells #[.slice none 0 0, .slice none 0 0, .slice none 0 0, .int .i64 0] 31 (0, 0)) := by
    simp [World.setCell, Array.getElem?_modify, K1']
  have he : (((((W1.setCell ⟨w.heap.size, 0, none⟩ (.slice none 0 0)).setCell ⟨w.heap.size, 1, none⟩ (.slice none 0 0)).setCell ⟨w.heap.size, 2, none⟩ (.slice none 0 0)).setCell ⟨w.heap.size, 3, none⟩ (.int .i64 0)).setCell ⟨w.heap.size + 1, 0, none⟩ (.int .i64 8)).heap[w.heap.size + 1]? = some (.cells #[.int .i64 8] 32 (0, 0)) := by
    simp [World.setCell, Array.getElem?_modify, K2']
  have hB : Below w.heap.size w (((((W1.setCell ⟨w.heap.size, 0, none⟩ (.slice none 0 0)).setCell ⟨w.heap.size, 1, none⟩ (.slice none 0 0)).setCell ⟨w.heap.size, 2, none⟩ (.slice none 0 0)).setCell ⟨w.heap.size, 3, none⟩ (.int .i64 0)).setCell ⟨w.heap.size + 1, 0, none⟩ (.int .i64 8)) := by
    have h0 := HB'
    exact ((((h0.setCell (p := ⟨w.heap.size, 0, none⟩) (Nat.le_refl _) _).setCell (p := ⟨w.heap.size, 1, none⟩) (Nat.le_refl _) _).setCell (p := ⟨w.heap.size, 2, none⟩) (Nat.le_refl _) _).setCell (p := ⟨w.heap.size, 3, none⟩) (Nat.le_refl _) _).setCell (p := ⟨w.heap.size + 1, 0, none⟩) (Nat.le_succ _) _
  generalize (((((W1.setCell ⟨w.heap.size, 0, none⟩ (.slice none 0 0)).setCell ⟨w.heap.size, 1, none⟩ (.slice none 0 0)).setCell ⟨w.heap.size, 2, none⟩ (.slice none 0 0)).setCell ⟨w.heap.size, 3, none⟩ (.int .i64 0)).setCell ⟨w.heap.size + 1, 0, none⟩ (.int .i64 8)) = V at hp he hB ⊢
  exact ⟨_, res_read _ V _ _ _ _ _ _ _ rfl rfl hp he, rfl, hB⟩
set_option maxRecDepth 100000 in
set_option maxHeartbeats 4000000 in
theorem read_some (w : World) (A : Option Addr) (l : Bs) (cap : Nat) (p : Pg) (hc : l.length ≤ cap) (hm : cap ≤ maxLen) (hr : Row 1 (ByAt w) A l) (hd : pgD l = some (p, [])) :
    Calls Try.prog 30 #[.slice A l.length cap] w fun e w' => ∃ A B D ca cb cd, e = .returned (.tuple #[pv (cutP p) A B D ca cb cd, .int .i64 0]) ∧ (∀ V', Stab w.heap.size w' V' → PgAt V' (cutP p) A B D ca cb cd) ∧ Below w.heap.size w w' := by
  have hmf : ∀ (fn : Fn) (first cap : Array Value) (w : World), (Instr.makeFunc fn first cap).run Try.prog w = .ok (.func fn first cap) w := fun _ _ _ _ => rfl
  have H1 := opg_gives w _ _ l (Rd.start w A l cap hc hm hr zPg zEr)
  rw [hd] at H1
  have HH1 := Lib.hid H1
  have hb1 := heap2a w zPg zEr
  have hb2 := heapB w zPg zEr
  clear H1 hd hr
  go_enter_defers Try.func30, Try.ntmps30
  go_wp2_with fail
  refine HH1.out.mono ?_
  rintro e w1 ⟨Ap, Bp, Dp, ca, cb, cd, rfl, hr1, hm1, hp1⟩
  have k1 : w1.heap[w.heap.size]? = some zPg := (hm1.keep (b := w.heap.size) (by simp; omega) (by omega)).trans ((heap_alloc_old _ _ (by simp; try omega)).trans hb1)
  have k2 : w1.heap[w.heap.size + 1]? = some zEr := (hm1.keep (b := w.heap.size + 1) (by simp) (by omega)).trans ((heap_alloc_old _ _ (by simp)).trans hb2)
  obtain ⟨Ar, capr, hbr, _, _, _⟩ := hr1.blk
  have hB1 : Below w.heap.size w w1 := (((below2 w zPg zEr).alloc (by simp; omega) _)).grown hm1 (by simp; omega) (fun k hk => by cases hk; omega)
  have hs1 := hm1.size
  simp only [World.size_alloc] at hs1
  have r0 : w1.cell? ⟨w.heap.size + 1 + 1, 0, none⟩ = some (.slice Ar 0 capr) := by simp [World.cell?, hbr]
  obtain ⟨⟨c0, c1, c2, c3⟩, z0, z1, z2, z3⟩ := cells4 k1
  have e0 : w1.cell? ⟨w.heap.size + 1, 0, none⟩ = some (.int .i64 0) := by simp [World.cell?, k2]
  have y0 : w1.frozen? ⟨w.heap.size + 1, 0, none⟩ = false := by simp [World.frozen?, k2]
  have K1 := Lib.hid k1
  have K2 := Lib.hid k2
  have HB1 := Lib.hid hB1
  have HP1 := Lib.hid hp1
  clear hm1 hb1 hb2 k1 k2 hbr hr1 hB1 hp1
  go_wp2
  refine leaves_cons (f := 49) (args := #[.pointer (some ⟨w.heap.size, 0, none⟩), .pointer (some ⟨w.heap.size + 1, 0, none⟩)]) (by simp) (by simp [go_sem]) ?_
  refine (catch_idle w.heap.size (w.heap.size + 1) _).mono ?_
  rintro e u' w'' ⟨rfl, rfl, rfl⟩
  have hp : (((((((((w1.setCell ⟨w.heap.size, 0, none⟩ (.slice Ap (cutP p).funcs.length ca)).setCell ⟨w.heap.size, 1, none⟩ (.slice Bp (cutP p).globals.length cb)).setCell ⟨w.heap.size, 2, none⟩ (.slice Dp (cutP p).layouts.length cd)).setCell ⟨w.heap.size, 3, none⟩ (.int .i64 (cutP p).main)).setCell ⟨w.heap.size, 0, none⟩ (.slice Ap (cutP p).funcs.length ca)).setCell ⟨w.heap.size, 1, none⟩ (.slice Bp (cutP p).globals.length cb)).setCell ⟨w.heap.size, 2, none⟩ (.slice Dp (cutP p).layouts.length cd)).setCell ⟨w.heap.size, 3, none⟩ (.int .i64 (cutP p).main)).setCell ⟨w.heap.size + 1, 0, none⟩ (.int .i64 0)).heap[w.heap.size]? = some (.cells #[.slice Ap (cutP p).funcs.length ca, .slice Bp (cutP p).globals.length cb, .slice Dp (cutP p).layouts.length cd, .int .i64 (cutP p).main] 31 (0, 0)) := by
    simp [World.setCell, Array.getElem?_modify, K1.out]
  have he : (((((((((w1.setCell ⟨w.heap.size, 0, none⟩ (.slice Ap (cutP p).funcs.length ca)).setCell ⟨w.heap.size, 1, none⟩ (.slice Bp (cutP p).globals.length cb)).setCell ⟨w.heap.size, 2, none⟩ (.slice Dp (cutP p).layouts.length cd)).setCell ⟨w.heap.size, 3, none⟩ (.int .i64 (cutP p).main)).setCell ⟨w.heap.size, 0, none⟩ (.slice Ap (cutP p).funcs.length ca)).setCell ⟨w.heap.size, 1, none⟩ (.slice Bp (cutP p).globals.length cb)).setCell ⟨w.heap.size, 2, none⟩ (.slice Dp (cutP p).layouts.length cd)).setCell ⟨w.heap.size, 3, none⟩ (.int .i64 (cutP p).main)).setCell ⟨w.heap.size + 1, 0, none⟩ (.int .i64 0)).heap[w.heap.size + 1]? = some (.cells #[.int .i64 0] 32 (0, 0)) := by
    simp [World.setCell, Array.getElem?_modify, K2.out]
  have hB : Below w.heap.size w (((((((((w1.setCell ⟨w.heap.size, 0, none⟩ (.slice Ap (cutP p).funcs.length ca)).setCell ⟨w.heap.size, 1, none⟩ (.slice Bp (cutP p).globals.length cb)).setCell ⟨w.heap.size, 2, none⟩ (.slice Dp (cutP p).layouts.length cd)).setCell ⟨w.heap.size, 3, none⟩ (.int .i64 (cutP p).main)).setCell ⟨w.heap.size, 0, none⟩ (.slice Ap (cutP p).funcs.length ca)).setCell ⟨w.heap.size, 1, none⟩ (.slice Bp (cutP p).globals.length cb)).setCell ⟨w.heap.size, 2, none⟩ (.slice Dp (cutP p).layouts.length cd)).setCell ⟨w.heap.size, 3, none⟩ (.int .i64 (cutP p).main)).setCell ⟨w.heap.size + 1, 0, none⟩ (.int .i64 0)) :=
    ((((((((HB1.out.setCell (p := ⟨w.heap.size, 0, none⟩) (Nat.le_refl _) _).setCell (p := ⟨w.heap.size, 1, none⟩) (Nat.le_refl _) _).setCell (p := ⟨w.heap.size, 2, none⟩) (Nat.le_refl _) _).setCell (p := ⟨w.heap.size, 3, none⟩) (Nat.le_refl _) _).setCell (p := ⟨w.heap.size, 0, none⟩) (Nat.le_refl _) _).setCell (p := ⟨w.heap.size, 1, none⟩) (Nat.le_refl _) _).setCell (p := ⟨w.heap.size, 2, none⟩) (Nat.le_refl _) _).setCell (p := ⟨w.heap.size, 3, none⟩) (Nat.le_refl _) _).setCell (p := ⟨w.heap.size + 1, 0, none⟩) (Nat.le_succ _) _
  have hS : ∀ V', Stab w.heap.size (((((((((w1.setCell ⟨w.heap.size, 0, none⟩ (.slice Ap (cutP p).funcs.length ca)).setCell ⟨w.heap.size, 1, none⟩ (.slice Bp (cutP p).globals.length cb)).setCell ⟨w.heap.size, 2, none⟩ (.slice Dp (cutP p).layouts.length cd)).setCell ⟨w.heap.size, 3, none⟩ (.int .i64 (cutP p).main)).setCell ⟨w.heap.size, 0, none⟩ (.slice Ap (cutP p).funcs.length ca)).setCell ⟨w.heap.size, 1, none⟩ (.slice Bp (cutP p).globals.length cb)).setCell ⟨w.heap.size, 2, none⟩ (.slice Dp (cutP p).layouts.length cd)).setCell ⟨w.heap.size, 3, none⟩ (.int .i64 (cutP p).main)).setCell ⟨w.heap.size + 1, 0, none⟩ (.int .i64 0)) V' → PgAt V' (cutP p) Ap Bp Dp ca cb cd := fun V' hV => HP1.out V' ⟨by have := hV.1; simpa using this, fun g h1 h2 => by
    simp only [World.size_alloc] at h1
    rw [hV.2 g (by omega) (by simpa using h2)]
    have n1 : g ≠ w.heap.size := by omega
    have n2 : g ≠ w.heap.size + 1 := by omega
    rw [heap_setCell_other _ _ _ _ n2, heap_setCell_other _ _ _ _ n1, heap_setCell_other _ _ _ _ n1, heap_setCell_other _ _ _ _ n1, heap_setCell_other _ _ _ _ n1, heap_setCell_other _ _ _ _ n1, heap_setCell_other _ _ _ _ n1, heap_setCell_other _ _ _ _ n1, heap_setCell_other _ _ _ _ n1]⟩
  generalize (((((((((w1.setCell ⟨w.heap.size, 0, none⟩ (.slice Ap (cutP p).funcs.length ca)).setCell ⟨w.heap.size, 1, none⟩ (.slice Bp (cutP p).globals.length cb)).setCell ⟨w.heap.size, 2, none⟩ (.slice Dp (cutP p).layouts.length cd)).setCell ⟨w.heap.size, 3, none⟩ (.int .i64 (cutP p).main)).setCell ⟨w.heap.size, 0, none⟩ (.slice Ap (cutP p).funcs.length ca)).setCell ⟨w.heap.size, 1, none⟩ (.slice Bp (cutP p).globals.length cb)).setCell ⟨w.heap.size, 2, none⟩ (.slice Dp (cutP p).layouts.length cd)).setCell ⟨w.heap.size, 3, none⟩ (.int .i64 (cutP p).main)).setCell ⟨w.heap.size + 1, 0, none⟩ (.int .i64 0)) = V at hp he hB hS ⊢
  exact ⟨_, res_read _ V _ _ _ _ _ _ _ rfl rfl hp he, Ap, Bp, Dp, ca, cb, cd, rfl, hS, hB⟩
end Go.Proofs.Ytlkaeonedijfpaa
