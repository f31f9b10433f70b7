/-
  A string appended to bytes of the call's own; the texts of both; several numbers.
  The program's appendFunc.
-/
import Derived.Test.YtlkaeonedijfpaaBA
import Derived.Lib.AppendStr
import Derived.Test.YtlkaeonedijfpaaYA
set_option linter.all false
namespace Go.Proofs.Ytlkaeonedijfpaa
open Go.RowKit C
theorem run_append_str {P : Program} (w : World) (base : Nat) (t u ty e : TypeId) (i : TypeInfo) (ht : P.underlying t = some (.slice e)) (hu : P.underlying u = some .string) (hi : P.info? e = some i) (hz : i.zero = some (.int .u8 0))
    (hsize : i.size = 1) (hby : i.bytes = 1) (v : Value) (n : Nat) (xs : List Value) (hown : w.ownsRow base e 1 v n xs) (s : ByteArray)
    (h63 : n + s.size ≤ maxLen) (hbytes : n + s.size ≤ 70368744177664) (hbase : base ≤ w.heap.size) :
    ∃ v' w', (Builtin.append_ #[t, u] ty #[v, .string s]).run P w = .ok v' w' ∧ w'.ownsRow base e 1 v' (n + s.size) (xs ++ Lib.strCells s) ∧ Gr w v w' v' := by
  obtain ⟨v', w', hr, h2, h3, _⟩ := Lib.run_append_own_string (P := P) w base t u ty e i ht hu hi hz hsize hby v n xs hown s h63 (by omega) hbase
  refine ⟨v', w', hr, h2, h3, fun b hb => ?_⟩
  rcases hown.2 with ⟨rfl, rfl⟩ | ⟨g, cap, cur, rfl, hbg, hg, hnc, hcm, hcs, htake⟩
  · have hx : xs = [] := List.eq_nil_of_length_eq_zero (by simpa using hown.1)
    subst hx
    obtain ⟨v2, w2, hr2, h22, _⟩ := Lib.run_append_own_string (P := P) w w.heap.size t u ty e i ht hu hi hz hsize hby (.slice none 0 0) 0 [] (World.ownsRow_nil _ _ _ _) s h63 (by omega) (Nat.le_refl _)
    rw [hr] at hr2
    injection hr2 with e1 e2
    subst e1 e2
    exact .inr (h22.lt b hb).1
  · by_cases hroom : n + s.size ≤ cap
    · have hr2 := Lib.run_append_room_string (P := P) w t u ty e i ht hu hi hsize g n cap cur hg s hroom (by omega)
      rw [hr] at hr2
      injection hr2 with e1 e2
      subst e1
      exact .inl hb
    · have hr2 := Lib.run_append_grow_string (P := P) w t u ty e i (.int .u8 0) ht hu hi hz ⟨g, 0, none⟩ n cap xs (by rw [hsize]; exact hown.1) (hown.cells (g := g) rfl) s (by omega) (by omega) (by rw [hby]; exact growslice_fits (by omega) (by omega))
      rw [hr] at hr2
      injection hr2 with e1 e2
      subst e1
      have : w.heap.size = b := by simpa [Value.ownBlock] using hb
      exact .inr (by omega)
theorem wpList_append_str {P : Program} (w : World) {ops : Array Oper} {rest : List Oper} {o : Oper} {a : Act} {Q : Exit → Act → World → Prop} (hgd : o.guard = none) (sl x : Operand) (t u : TypeId)
    (ho : o.op = .call { callee := .builtin .append, args := #[sl, x], argTypes := #[t, u] })
    (base : Nat) (e : TypeId) (i : TypeInfo) (ht : P.underlying t = some (.slice e)) (hu : P.underlying u = some .string) (hi : P.info? e = some i) (hz : i.zero = some (.int .u8 0))
    (hsize : i.size = 1) (hby : i.bytes = 1)
    (v : Value) (n : Nat) (xs : List Value) (hs : a.eval sl = v) (hown : w.ownsRow base e 1 v n xs) (s : ByteArray) (hx : a.eval x = .string s)
    (h63 : n + s.size ≤ maxLen) (hbytes : n + s.size ≤ 70368744177664) (hbase : base ≤ w.heap.size)
    (h : ∀ v' w', w'.ownsRow base e 1 v' (n + s.size) (xs ++ Lib.strCells s) → Gr w v w' v' → wpList P ops Q rest (a.put o.dst v') w') : wpList P ops Q (o :: rest) a w := by
  refine wpList_plain hgd fun K hK => ?_
  obtain ⟨v', w', hr, h2, h3⟩ := run_append_str (P := P) w base t u o.type e i ht hu hi hz hsize hby v n xs hown s h63 hbytes hbase
  unfold Oper.wp execOp
  simp only [ho, resolve, invoke, builtin, Sem.run_bind, Sem.run_pure, Result.andThen_ok, List.map_toArray, List.map_cons, List.map_nil, hs, hx, hr]
  exact hK _ _ (h v' w' h2 h3)
theorem str_cells (s : ByteArray) : Lib.strCells s = s.data.toList.map u8v := rfl
theorem numE_len {n : Int} (h : C.I64 n) : (numE n).length ≤ 10 := groups_len (zig_lt h)
theorem i64_nat {n : Nat} (h : n ≤ 9223372036854775807) : C.I64 (n : Int) := ⟨by omega, by omega⟩
theorem OwnB.text {base m : Nat} {w : World} {v : Value} {l : Bs} {s : ByteArray} (h : w.ownsRow base 5 1 v m (l.map u8v ++ Lib.strCells s)) (hm : m = l.length + s.size) : OwnB base w v (l ++ s.data.toList) := by
  unfold OwnB
  rw [List.length_append, List.map_append, show s.data.toList.length = s.size from Array.length_toList, ← hm]
  exact h
set_option maxRecDepth 100000 in
set_option maxHeartbeats 1000000 in
theorem otext_any (base : Nat) (v : Value) (l : Bs) (s : ByteArray) (w : World) (h : OwnB base w v l) (hb : base ≤ w.heap.size) (hl : l.length + s.size ≤ 70368744177000) :
    Calls Try.prog 45 #[v, .string s] w (App base w v (l ++ textE s)) := by
  obtain ⟨i0, hi, hz0, hz1, hz2⟩ := info_parts infoB
  have H1 := Lib.hid (onum_loop base v l (s.size : Int) w h hb (by omega) (i64_nat (by omega)))
  have hnl := numE_len (i64_nat (n := s.size) (by omega))
  clear h
  go_enter Try.func45, Try.ntmps45
  go_wp2_with fail
  refine H1.out.mono ?_
  rintro e w1 ⟨v1, rfl, ho, hg⟩
  have hge := hg.g.size
  obtain ⟨m, hm⟩ : ∃ m, (l ++ numE s.size).length = m := ⟨_, rfl⟩
  have hle : m ≤ l.length + 10 := by rw [List.length_append] at hm; omega
  unfold OwnB at ho
  rw [hm] at ho
  have HO := Lib.hid ho
  have HM := Lib.hid hm
  have HG := Lib.hid hg
  clear ho hm hg
  go_wp2_with (at_builtin; refine wpList_append_str _ rfl _ _ _ _ rfl base 5 i0 Try.underlying22 Try.underlying9 hi hz0 hz1 hz2 v1 m ((l ++ numE s.size).map u8v) rfl HO.out s rfl (by unfold maxLen; omega) (by omega) (by omega) ?_; intro v2 w2 ho2 hg2)
  go_ret
  exact ⟨_, rfl, by unfold textE; rw [← List.append_assoc]; exact OwnB.text ho2 (by rw [HM.out]), HG.out.trans hg2⟩
set_option maxRecDepth 100000 in
set_option maxHeartbeats 1000000 in
theorem qtext_any (base : Nat) (v : Value) (l : Bs) (s : ByteArray) (w : World) (h : OwnB base w v l) (hb : base ≤ w.heap.size) (hl : l.length + s.size ≤ 70368744177000) :
    Calls Try.prog 32 #[v, .string s] w (App base w v (l ++ textE s)) := by
  obtain ⟨i0, hi, hz0, hz1, hz2⟩ := info_parts infoB
  have H1 := Lib.hid (qnum_loop base v l (s.size : Int) w h hb (by omega) (i64_nat (by omega)))
  have hnl := numE_len (i64_nat (n := s.size) (by omega))
  clear h
  go_enter Try.func32, Try.ntmps32
  go_wp2_with fail
  refine H1.out.mono ?_
  rintro e w1 ⟨v1, rfl, ho, hg⟩
  have hge := hg.g.size
  obtain ⟨m, hm⟩ : ∃ m, (l ++ numE s.size).length = m := ⟨_, rfl⟩
  have hle : m ≤ l.length + 10 := by rw [List.length_append] at hm; omega
  unfold OwnB at ho
  rw [hm] at ho
  have HO := Lib.hid ho
  have HM := Lib.hid hm
  have HG := Lib.hid hg
  clear ho hm hg
  go_wp2_with (at_builtin; refine wpList_append_str _ rfl _ _ _ _ rfl base 5 i0 Try.underlying22 Try.underlying9 hi hz0 hz1 hz2 v1 m ((l ++ numE s.size).map u8v) rfl HO.out s rfl (by unfold maxLen; omega) (by omega) (by omega) ?_; intro v2 w2 ho2 hg2)
  go_ret
  exact ⟨_, rfl, by unfold textE; rw [← List.append_assoc]; exact OwnB.text ho2 (by rw [HM.out]), HG.out.trans hg2⟩
/-! ### several numbers, out of a row that stands -/
def numsE (l : List Int) : Bs := l.flatMap numE
theorem nums_take {l : List Int} {k : Nat} (h : k < l.length) : numsE (l.take (k + 1)) = numsE (l.take k) ++ numE l[k] := by
  unfold numsE
  rw [List.take_succ_eq_append_getElem h, List.flatMap_append]; simp
theorem nums_len {l : List Int} (h : ∀ x ∈ l, C.I64 x) : (numsE l).length ≤ 10 * l.length := by
  induction l with
  | nil => simp [numsE]
  | cons a l ih =>
    have h1 := numE_len (h a List.mem_cons_self)
    have h2 := ih fun x hx => h x (List.mem_cons_of_mem _ hx)
    unfold numsE at h2 ⊢
    rw [List.flatMap_cons, List.length_append, List.length_cons]; omega
/-- A row of numbers stands, apart from the row that grows. -/
def NumsAt (w : World) (v : Value) (A : Option Addr) (l : List Int) : Prop :=
  ∀ i (h : i < l.length), ∃ g o, A = some ⟨g, o, none⟩ ∧ g < w.heap.size ∧ v.ownBlock ≠ some g ∧ w.cell? ⟨g, o + i, none⟩ = some (.int .i64 l[i]) ∧ C.I64 l[i]
theorem NumsAt.gr {w w' : World} {v v' : Value} {A : Option Addr} {l : List Int} (h : NumsAt w v A l) (hg : Gr w v w' v') : NumsAt w' v' A l := by
  intro i hi
  obtain ⟨g, o, e, h1, h2, h3, h4⟩ := h i hi
  obtain ⟨k1, k2⟩ := hg.keep h1 h2
  exact ⟨g, o, e, by have := hg.g.size; omega, k2, by rw [World.cell?_of_block k1]; exact h3, h4⟩
set_option maxRecDepth 100000 in
set_option maxHeartbeats 1000000 in
theorem onums_any (base : Nat) (v : Value) (l : Bs) (A : Option Addr) (x : List Int) (cap : Nat) (w : World) (h : OwnB base w v l) (hb : base ≤ w.heap.size) (hx : x.length ≤ 1048576) (hl : l.length ≤ 70368700000000) (hA : NumsAt w v A x) :
    Calls Try.prog 46 #[v, .slice A x.length cap] w (App base w v (l ++ numsE x)) := by
  have HO := Lib.hid h
  have HA := Lib.hid hA
  clear h hA
  go_enter Try.func46, Try.ntmps46
  go_wp2
  go_loopw [0, 9] (fun s0 s9 wr => ∃ k : Nat, k ≤ x.length ∧ s9 = .int .i64 (k : Int) ∧ OwnB base wr s0 (l ++ numsE (x.take k)) ∧ Gr w v wr s0) (fun _ s9 _ => x.length - (intOf s9).toNat)
  case atStart => exact ⟨0, Nat.zero_le _, rfl, by simpa [numsE] using HO.out, Gr.refl _ _⟩
  case round =>
    obtain ⟨k, hk, rfl, ho, hg⟩ := hrel
    have hge := hg.g.size
    have HG := Lib.hid hg
    have HOk := Lib.hid ho
    clear ho hg
    by_cases hlt : k < x.length
    · obtain ⟨g, o, hAe, h1, h2, h3, h4⟩ := (HA.out.gr HG.out) k hlt
      subst hAe
      obtain ⟨y, hy⟩ : ∃ y, x[k] = y := ⟨_, rfl⟩
      rw [hy] at h3 h4
      have hlen : (l ++ numsE (x.take k)).length ≤ 70368744177664 := by
        have := nums_len (l := x.take k) (fun z hz => by
          obtain ⟨i, hi, e⟩ := List.mem_iff_getElem.1 hz
          obtain ⟨_, _, _, _, _, _, h5⟩ := HA.out i (by rw [List.length_take] at hi; omega)
          rw [List.getElem_take] at e
          rw [← e]; exact h5)
        rw [List.length_append]
        rw [List.length_take] at this
        omega
      have HY := Lib.hid hy
      have HN := Lib.hid (onum_loop base u0 _ y wr HOk.out (by omega) hlen h4)
      clear hy h4 hlen
      go_wp2_with fail
      refine HN.out.mono ?_
      rintro e w1 ⟨v1, rfl, ho1, hg1⟩
      have HO1 := Lib.hid ho1
      have HG1 := Lib.hid hg1
      clear ho1 hg1
      go_wp2
      go_roundw
      case rel => exact ⟨k + 1, by omega, by go_num, by rw [nums_take hlt, HY.out, ← List.append_assoc]; exact HO1.out, HG.out.trans HG1.out⟩
      case measure => simp [intOf]; omega
    · obtain rfl : k = x.length := by omega
      go_wp2
      go_ret
      exact ⟨_, rfl, by have := HOk.out; rw [List.take_length] at this; exact this, HG.out⟩
end Go.Proofs.Ytlkaeonedijfpaa

namespace Go.Proofs.Ytlkaeonedijfpaa
open Go.RowKit C
/-- What came in stands, and a row of the call's own holds bytes. -/
structure St (w0 w : World) (v : Value) (l : Bs) : Prop where
  bel : Below w0.heap.size w0 w
  own : OwnB w0.heap.size w v l
theorem St.ge {w0 w : World} {v : Value} {l : Bs} (h : St w0 w v l) : ∀ k, v.ownBlock = some k → w0.heap.size ≤ k := fun k hk => (h.own.lt k hk).1
theorem St.lt {w0 w : World} {v : Value} {l : Bs} (h : St w0 w v l) : ∀ k, v.ownBlock = some k → k < w.heap.size := fun k hk => (h.own.lt k hk).2
theorem St.gr {w0 w w' : World} {v v' : Value} {l l' : Bs} (h : St w0 w v l) (hg : Gr w v w' v') (ho : OwnB w0.heap.size w' v' l') : St w0 w' v' l' :=
  ⟨h.bel.trans ((hg.below h.bel.size h.ge)), ho⟩
theorem St.alloc {w0 w : World} {v : Value} {l : Bs} (h : St w0 w v l) (o : Obj) : St w0 (w.alloc o) v l := ⟨h.bel.alloc h.bel.size o, h.own.alloc o⟩
def Ap (w0 w : World) (v : Value) (l : Bs) (e : Ending) (w' : World) : Prop := ∃ v', e = .returned v' ∧ St w0 w' v' l ∧ Gr w v w' v'
theorem App.ap {w0 w w' : World} {v : Value} {l l' : Bs} {e : Ending} (h : App w0.heap.size w v l' e w') (S : St w0 w v l) : Ap w0 w v l' e w' := by
  obtain ⟨v', he, ho, hg⟩ := h
  exact ⟨v', he, S.gr hg ho, hg⟩
/-- A box stands, apart from the row that grows. -/
structure Bx (w : World) (v : Value) (b : Nat) (cs : Array Value) (t : TypeId) : Prop where
  blk : w.heap[b]? = some (.cells cs t (0, 0))
  ne : v.ownBlock ≠ some b
theorem Bx.gr {w w' : World} {v v' : Value} {b : Nat} {cs : Array Value} {t : TypeId} (h : Bx w v b cs t) (hg : Gr w v w' v') : Bx w' v' b cs t := by
  obtain ⟨h1, h2⟩ := hg.keep (Array.getElem?_eq_some_iff.1 h.blk).1 h.ne
  exact ⟨h1.trans h.blk, h2⟩
theorem Bx.new {w0 w : World} {v : Value} {l : Bs} (S : St w0 w v l) (cs : Array Value) (t : TypeId) : Bx (w.alloc (.cells cs t)) v w.heap.size cs t :=
  ⟨heap_alloc_new w _, fun e => by have := S.lt _ e; omega⟩
theorem Bx.alloc {w : World} {v : Value} {b : Nat} {cs : Array Value} {t : TypeId} (h : Bx w v b cs t) (o : Obj) : Bx (w.alloc o) v b cs t := h.gr ((Gr.refl _ _).alloc o)
theorem nums_new {w0 w : World} {v : Value} {l : Bs} (S : St w0 w v l) (x : List Int) (hx : ∀ y ∈ x, C.I64 y) (cs : Array Value) (hcs : cs.toList = x.map (Value.int .i64)) : NumsAt (w.alloc (.cells cs 3)) v (some ⟨w.heap.size, 0, none⟩) x := by
  intro i hi
  refine ⟨w.heap.size, 0, rfl, by simp, fun e => by have := S.lt _ e; omega, ?_, hx _ (List.getElem_mem hi)⟩
  rw [Nat.zero_add, cell_of_row _ _ _ _ _ _ (heap_alloc_new w (.cells cs 3))]
  have : cs[i]? = (x.map (Value.int .i64))[i]? := by rw [← hcs]; simp
  rw [this]; simp [hi]
def atK (l : List In) (k : Nat) : Int := if k = 0 then 0 else (l.getD (k - 1) default).at'
theorem code_take {l : List In} {k : Nat} (h : k < l.length) : codeE 0 (l.take (k + 1)) = codeE 0 (l.take k) ++ inE (atK l k) l[k] := by
  have key : ∀ (l : List In) (at0 : Int) (k : Nat) (h : k < l.length), codeE at0 (l.take (k + 1)) = codeE at0 (l.take k) ++ inE (if k = 0 then at0 else (l.getD (k - 1) default).at') l[k] := by
    intro l
    induction l with
    | nil => intro _ k h; cases h
    | cons x l ih =>
      intro at0 k h
      cases k with
      | zero => simp [codeE]
      | succ k =>
        have h2 := ih x.at' k (by simpa using h)
        rw [List.take_succ_cons, List.take_succ_cons]
        simp only [codeE]
        rw [h2, List.append_assoc]
        congr 2
        cases k <;> simp
  exact key l 0 k h
theorem inE_nums (at0 : Int) (x : In) : inE at0 x = numsE [x.op, x.a, x.b, x.c, wrap64 (x.at' - at0)] := by simp [inE, numsE]
theorem inE_len {at0 : Int} {x : In} (h : I5 x) : (inE at0 x).length ≤ 50 := by
  obtain ⟨h1, h2, h3, h4, h5⟩ := h
  have := nums_len (l := [x.op, x.a, x.b, x.c, wrap64 (x.at' - at0)]) (by intro y hy; simp at hy; rcases hy with rfl | rfl | rfl | rfl | rfl <;> first | assumption | exact i64_wrap _)
  rw [inE_nums]; simpa using this
theorem codeE_len {l : List In} (h : ∀ x ∈ l, I5 x) : ∀ at0, (codeE at0 l).length ≤ 50 * l.length := by
  induction l with
  | nil => intro _; simp [codeE]
  | cons x l ih =>
    intro at0
    have h1 := inE_len (at0 := at0) (h x List.mem_cons_self)
    have h2 := ih (fun y hy => h y (List.mem_cons_of_mem _ hy)) x.at'
    simp only [codeE, List.length_append, List.length_cons]; omega
theorem textE_len {s : ByteArray} (h : s.size ≤ 9223372036854775807) : (textE s).length ≤ 10 + s.size := by
  unfold textE
  have := numE_len (i64_nat h)
  rw [List.length_append, show s.data.toList.length = s.size from Array.length_toList]; omega
theorem InAt.i5 {w : World} {x : In} {g o : Nat} (h : InAt w x g o) : I5 x := ⟨h.b0, h.b1, h.b2, h.b3, h.b4⟩
theorem code_i5 {w : World} {f : Fc} {A : Option Addr} {ca : Nat} (h : FvOk w f A ca) : ∀ x ∈ f.code, I5 x := by
  intro x hx
  obtain ⟨i, hi, rfl⟩ := List.mem_iff_getElem.1 hx
  obtain ⟨g, o, _, hh⟩ := h.row.at (by omega)
  exact (hh i hi).i5
/-- What is written of a function ahead of its code. -/
def fnH (f : Fc) : Bs := textE f.name ++ numsE [f.params, f.regs, (f.code.length : Int)]
theorem fnE_eq (f : Fc) : fnE f = fnH f ++ codeE 0 f.code := by simp [fnE, fnH, numsE]
theorem fnH_len {f : Fc} (h : C.I64 f.params) (h2 : C.I64 f.regs) (h3 : f.name.size ≤ 1048576) (h4 : f.code.length ≤ 1048576) : (fnH f).length ≤ f.name.size + 40 := by
  have h5 := textE_len (s := f.name) (by omega)
  have h6 := nums_len (l := [f.params, f.regs, (f.code.length : Int)]) (by intro y hy; simp at hy; rcases hy with rfl | rfl | rfl <;> first | assumption | exact i64_nat (by omega))
  unfold fnH
  rw [List.length_append]
  simp only [List.length_cons, List.length_nil] at h6
  omega
theorem gr_new2 {w w' : World} {v v' : Value} {o : Obj} (h : Gr (w.alloc o) v w' v') : Gr w v w' v' := h.pre
set_option maxRecDepth 100000 in
set_option maxHeartbeats 4000000 in
theorem ofunc_any (w0 : World) (f : Fc) (Af : Option Addr) (caf : Nat) (v : Value) (l : Bs) (w : World) (hf : FvOk w0 f Af caf) (S : St w0 w v l) (hn : f.name.size ≤ 1048576) (hc : f.code.length ≤ 1048576) (hl : l.length ≤ 70368000000000) :
    Calls Try.prog 47 #[v, fv f Af caf] w (Ap w0 w v (l ++ fnE f)) := by
  have hs0 := S.bel.size
  have HL := fnH_len hf.b1 hf.b2 hn hc
  have HF := Lib.hid hf
  have HS := Lib.hid S
  have HCI := Lib.hid (code_i5 hf)
  have B0 := Lib.hid (Bx.new S #[.string f.name, .int .i64 f.params, .int .i64 f.regs, .slice Af f.code.length caf] 55)
  have H1 := Lib.hid (otext_any w0.heap.size v l f.name (w.alloc (.cells #[.string f.name, .int .i64 f.params, .int .i64 f.regs, .slice Af f.code.length caf] 55)) (S.alloc _).own (by simp; omega) (by omega))
  have ht := textE_len (s := f.name) (by omega)
  clear hf S
  go_enter Try.func47, Try.ntmps47
  go_wp2_with fail
  refine H1.out.mono ?_
  rintro e w1 ⟨v1, rfl, ho1, hg1⟩
  have S1 := Lib.hid ((HS.out.alloc _).gr hg1 ho1)
  have B1' := Lib.hid (B0.out.gr hg1)
  have G1 := Lib.hid hg1.pre
  have hz1 := hg1.g.size
  simp only [World.size_alloc] at hz1
  clear ho1 hg1
  obtain ⟨⟨c0, c1, c2, c3⟩, _⟩ := cells4 B1'.out.blk
  have hlen1 : (l ++ textE f.name).length ≤ 70368700000000 := by rw [List.length_append]; omega
  have H2 := Lib.hid (onums_any w0.heap.size v1 (l ++ textE f.name) (some ⟨w1.heap.size, 0, none⟩) [f.params, f.regs, (f.code.length : Int)] 3 (w1.alloc (.cells #[.int .i64 f.params, .int .i64 f.regs, .int .i64 (f.code.length : Int)] 3)) (S1.out.alloc _).own (by simp; omega) (by simp) hlen1
    (nums_new S1.out _ (by intro y hy; simp at hy; rcases hy with rfl | rfl | rfl <;> first | exact HF.out.b1 | exact HF.out.b2 | exact i64_nat (by omega)) _ rfl))
  clear hlen1
  go_wp2_with fail
  refine H2.out.mono ?_
  rintro e w2 ⟨v2, rfl, ho2, hg2⟩
  rw [List.append_assoc] at ho2
  have S2 := Lib.hid (show St w0 w2 v2 (l ++ fnH f) from (S1.out.alloc _).gr hg2 ho2)
  have B2' := Lib.hid ((B1'.out.alloc _).gr hg2)
  have G2 := Lib.hid (G1.out.trans hg2.pre)
  have hz2 := hg2.g.size
  simp only [World.size_alloc] at hz2
  clear ho2 hg2 c0 c1 c2 c3
  obtain ⟨⟨c0, c1, c2, c3⟩, _⟩ := cells4 B2'.out.blk
  go_wp2_with fail
  go_loopw [0, 5, 25] (fun s0 s5 s25 wr => ∃ k : Nat, k ≤ f.code.length ∧ s25 = .int .i64 (k : Int) ∧ s5 = .int .i64 (atK f.code k) ∧ St w0 wr s0 (l ++ fnH f ++ codeE 0 (f.code.take k)) ∧ Gr w v wr s0) (fun _ _ s25 _ => f.code.length - (intOf s25).toNat)
  case atStart => exact ⟨0, Nat.zero_le _, rfl, rfl, by simpa [codeE] using S2.out, G2.out⟩
  case round =>
    obtain ⟨k, hk, rfl, rfl, hs, hg⟩ := hrel
    have hge := hg.g.size
    have HSk := Lib.hid hs
    have HGk := Lib.hid hg
    clear hs hg
    by_cases hlt : k < f.code.length
    · obtain ⟨g, o, hAe, hh⟩ := HF.out.row.at (by omega)
      have hx := (hh k hlt).below HSk.out.bel
      subst hAe
      obtain ⟨x, hxe⟩ : ∃ x, f.code[k] = x := ⟨_, rfl⟩
      rw [hxe] at hx
      obtain ⟨a0, ha0⟩ : ∃ a0, atK f.code k = a0 := ⟨_, rfl⟩
      obtain ⟨d, hd⟩ : ∃ d, wrap64 (x.at' - a0) = d := ⟨_, rfl⟩
      have q0 := hx.c0
      have q1 := hx.c1
      have q2 := hx.c2
      have q3 := hx.c3
      have q4 := hx.c4
      rw [ha0]
      have HX := Lib.hid hxe
      have HA0 := Lib.hid ha0
      have HD := Lib.hid hd
      have hlen : (l ++ fnH f ++ codeE 0 (f.code.take k)).length ≤ 70368700000000 := by
        have := codeE_len (l := f.code.take k) (fun z hz => HCI.out z (List.mem_of_mem_take hz)) 0
        rw [List.length_append, List.length_append]
        rw [List.length_take] at this
        omega
      have H3 := Lib.hid (onums_any w0.heap.size u0 _ (some ⟨wr.heap.size + 1, 0, none⟩) [x.op, x.a, x.b, x.c, d] 5 ((wr.alloc (.cells #[.int .i64 x.op, .int .i64 x.a, .int .i64 x.b, .int .i64 x.c, .int .i64 x.at'] 57)).alloc (.cells #[.int .i64 x.op, .int .i64 x.a, .int .i64 x.b, .int .i64 x.c, .int .i64 d] 3)) ((HSk.out.alloc _).alloc _).own (by simp; omega) (by simp) hlen
        (by have := nums_new (HSk.out.alloc (.cells #[.int .i64 x.op, .int .i64 x.a, .int .i64 x.b, .int .i64 x.c, .int .i64 x.at'] 57)) [x.op, x.a, x.b, x.c, d] (by intro y hy; simp at hy; rcases hy with rfl | rfl | rfl | rfl | rfl <;> first | exact hx.b0 | exact hx.b1 | exact hx.b2 | exact hx.b3 | (rw [← hd]; exact i64_wrap _)) #[.int .i64 x.op, .int .i64 x.a, .int .i64 x.b, .int .i64 x.c, .int .i64 d] rfl
            simpa using this))
      have hnz : wr.heap.size ≤ ((wr.alloc (.cells #[.int .i64 x.op, .int .i64 x.a, .int .i64 x.b, .int .i64 x.c, .int .i64 x.at'] 57)).alloc (.cells #[.int .i64 x.op, .int .i64 x.a, .int .i64 x.b, .int .i64 x.c, .int .i64 d] 3)).heap.size := by simp; omega
      clear hxe ha0 hlen hx hh
      go_wp2_with fail
      refine H3.out.mono ?_
      rintro e w3 ⟨v3, rfl, ho3, hg3⟩
      clear hd
      have hg4 : Gr wr u0 w3 v3 := hg3.pre.pre
      have S3 := Lib.hid (HSk.out.gr hg4 ho3)
      have G3 := Lib.hid (HGk.out.trans hg4)
      have B3 := Lib.hid (((Bx.new HSk.out #[.int .i64 x.op, .int .i64 x.a, .int .i64 x.b, .int .i64 x.c, .int .i64 x.at'] 57).alloc (.cells #[.int .i64 x.op, .int .i64 x.a, .int .i64 x.b, .int .i64 x.c, .int .i64 d] 3)).gr hg3)
      have r4 : w3.cell? ⟨wr.heap.size, 4, none⟩ = some (.int .i64 x.at') := by simp [World.cell?, B3.out.blk]
      have HE : Hid (l ++ fnH f ++ codeE 0 (f.code.take (k + 1)) = l ++ fnH f ++ codeE 0 (f.code.take k) ++ numsE [x.op, x.a, x.b, x.c, d]) := Lib.hid (by
        rw [code_take hlt, inE_nums, HX.out, HA0.out, HD.out, ← List.append_assoc])
      have HK : Hid (x.at' = atK f.code (k + 1)) := Lib.hid (by simp [atK, hlt, HX.out])
      clear ho3 hg3 hg4
      go_wp2
      go_roundw
      case rel => exact ⟨k + 1, by omega, by go_num, by rw [HK.out], by rw [HE.out]; exact S3.out, G3.out⟩
      case measure => simp [intOf]; omega
    · obtain rfl : k = f.code.length := by omega
      go_wp2
      go_ret
      exact ⟨_, rfl, by rw [fnE_eq, ← List.append_assoc]; have := HSk.out; rw [List.take_length] at this; exact this, HGk.out⟩
end Go.Proofs.Ytlkaeonedijfpaa
