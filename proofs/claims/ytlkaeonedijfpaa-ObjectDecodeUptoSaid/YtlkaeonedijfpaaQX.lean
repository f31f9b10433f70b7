/-
  The law ObjectOnto.
-/
import Derived.Test.YtlkaeonedijfpaaQW
set_option linter.all false
namespace Go.Proofs.Ytlkaeonedijfpaa
open Go.RowKit C
/-! ### what encodes to few bytes is of little bulk -/
theorem flat_ge2 {α : Type} {e : α → Bs} {f : α → Nat} : ∀ {l : List α}, (∀ x ∈ l, f x ≤ (e x).length) → (l.map f).sum ≤ (l.flatMap e).length := by
  intro l
  induction l with
  | nil => simp
  | cons a l ih =>
    intro h
    have h1 := h a List.mem_cons_self
    have h2 := ih fun x hx => h x (List.mem_cons_of_mem _ hx)
    rw [List.flatMap_cons, List.length_append, List.map_cons, List.sum_cons]; omega
theorem textE_ge (s : ByteArray) : s.size + 1 ≤ (textE s).length := by
  unfold textE
  rw [List.length_append]
  have := numE_pos (s.size : Int)
  have h2 : s.data.toList.length = s.size := Array.length_toList
  omega
theorem codeE_ge : ∀ (l : List In) (a : Int), l.length ≤ (codeE a l).length := by
  intro l
  induction l with
  | nil => intro a; exact Nat.le_refl _
  | cons x l ih => intro a; show l.length + 1 ≤ (inE a x ++ codeE x.at' l).length; rw [List.length_append]; have := inE_pos a x; have := ih x.at'; omega
theorem fnE_ge (f : Fc) : f.name.size + f.code.length + 1 ≤ (fnE f).length := by
  unfold fnE
  simp only [List.length_append]
  have := textE_ge f.name
  have := codeE_ge f.code 0
  omega
theorem glE_ge (g : Gl) : g.name.size + 1 ≤ (glE g).length := by
  unfold glE
  rw [List.length_append]
  have := textE_ge g.name
  omega
theorem lyE_ge (l : List Int) : l.length ≤ (lyE l).length := by
  unfold lyE listE
  rw [List.length_append]
  have := flat_ge (e := numE) numE_pos l
  omega
theorem bk_form {p : Pg} (h : (formE p).length ≤ 1048576) : Bk p := by
  have h1 : (formE p).length = (headF p).length + 4 := by unfold formE; rw [List.length_append]; rfl
  have h2 : (headF p).length = 4 + (pgE p).length := by unfold headF; rw [List.length_append]; rfl
  have h3 : (pgE p).length = (listE glE p.globals).length + ((listE lyE p.layouts).length + ((listE fnE p.funcs).length + (numE p.main).length)) := by unfold pgE; simp only [List.length_append]
  have h4 : (p.globals.flatMap glE).length ≤ (listE glE p.globals).length := by unfold listE; rw [List.length_append]; omega
  have h5 : (p.layouts.flatMap lyE).length ≤ (listE lyE p.layouts).length := by unfold listE; rw [List.length_append]; omega
  have h6 : (p.funcs.flatMap fnE).length ≤ (listE fnE p.funcs).length := by unfold listE; rw [List.length_append]; omega
  have h7 := flat_ge2 (l := p.globals) (e := glE) (f := fun g => g.name.size + 1) fun x _ => glE_ge x
  have h8 := flat_ge2 (l := p.layouts) (e := lyE) (f := fun l => l.length) fun x _ => lyE_ge x
  have h9 := flat_ge2 (l := p.funcs) (e := fnE) (f := fun f => f.name.size + f.code.length + 1) fun x _ => fnE_ge x
  have h10 := flat_ge (e := lyE) lyE_pos p.layouts
  exact ⟨by omega, by omega⟩
theorem grown_refl (w : World) (row : Option Nat) : w.grownBy w row := ⟨rfl, rfl, rfl, Nat.le_refl _, fun _ _ _ => rfl⟩
/-- What is appended to a new empty row. -/
theorem step_append_e {P : Program} (w : World) {ops : Array Oper} {o : Oper} {a : Act} {K : Act → World → Prop} {Q : Exit → Act → World → Prop} {E : Prop} (hgd : o.guard = none) (s x : Operand) (t : TypeId)
    (ho : o.op = .call { callee := .builtin .append, args := #[s, x], argTypes := #[t, t] })
    (base : Nat) (e : TypeId) (i : TypeInfo) (z : Value) (size bytes : Nat) (ht : P.underlying t = some (.slice e)) (hi : P.info? e = some i) (hz : i.zero = some z)
    (hsize : i.size = size) (hby : i.bytes = bytes) (hzs : z.cells.size = size) (hsz : 0 < size)
    (b : Nat) (hs : a.eval s = .slice (some ⟨b, 0, none⟩) 0 0) (hown : w.ownsRow base e size (.slice (some ⟨b, 0, none⟩) 0 0) 0 [])
    (A : Option Addr) (m c : Nat) (news : List Value) (hx : a.eval x = .slice A m c) (hl : news.length = m * size)
    (hnews : 0 < m → ∃ ad, A = some ad ∧ ∀ j u, news[j]? = some u → w.cell? (ad.add j) = some u) (h1 : ∀ u ∈ news, u.oneCell' = true)
    (h63 : m ≤ maxLen) (hbytes : m * bytes ≤ 140737488355328) (hbase : base ≤ w.heap.size) (H : Nat) (hH : w.heap.size = H)
    (h : ∀ g cap w', w'.ownsRow base e size (.slice (some ⟨g, 0, none⟩) m cap) m news → w.grownBy w' (some b) → (g = b ∨ g = H) → g < w'.heap.size → K (a.put o.dst (.slice (some ⟨g, 0, none⟩) m cap)) w') :
    if Region.wanted o (yielded ops a.tmps) = true then Oper.wp P o a w K Q else E := by
  by_cases hm : 0 < m
  · obtain ⟨ad, hA, hn⟩ := hnews hm
    subst hA
    refine step_append_lies _ hgd s x t ho base e i z size bytes ht hi hz hsize hby hzs hsz _ 0 [] hs hown ad m c news hx hl hn h1 hm (by omega) (by rw [Nat.zero_add]; exact hbytes) hbase H hH ?_
    intro g cap w' ho' hg hat hlt
    rw [Nat.zero_add, List.nil_append] at ho'
    rw [Nat.zero_add]
    refine h g cap w' ho' hg ?_ hlt
    rcases hat with e | e
    · exact .inl (by simpa [Value.ownBlock] using e.symm)
    · exact .inr e
  · have hm0 : m = 0 := by omega
    subst hm0
    have hn0 : news = [] := List.eq_nil_of_length_eq_zero (by rw [hl, Nat.zero_mul])
    subst hn0
    exact step_append_same w hgd s x t ho base e i size ht hi hsize _ 0 [] hs hown A 0 c rfl hx (h b 0 w hown (grown_refl _ _) (.inl rfl) (hown.lt b rfl).2)
theorem wpList_append_e {P : Program} (w : World) {ops : Array Oper} {rest : List Oper} {o : Oper} {a : Act} {Q : Exit → Act → World → Prop} (hgd : o.guard = none) (s x : Operand) (t : TypeId)
    (ho : o.op = .call { callee := .builtin .append, args := #[s, x], argTypes := #[t, t] })
    (base : Nat) (e : TypeId) (i : TypeInfo) (z : Value) (size bytes : Nat) (ht : P.underlying t = some (.slice e)) (hi : P.info? e = some i) (hz : i.zero = some z)
    (hsize : i.size = size) (hby : i.bytes = bytes) (hzs : z.cells.size = size) (hsz : 0 < size)
    (b : Nat) (hs : a.eval s = .slice (some ⟨b, 0, none⟩) 0 0) (hown : w.ownsRow base e size (.slice (some ⟨b, 0, none⟩) 0 0) 0 [])
    (A : Option Addr) (m c : Nat) (news : List Value) (hx : a.eval x = .slice A m c) (hl : news.length = m * size)
    (hnews : 0 < m → ∃ ad, A = some ad ∧ ∀ j u, news[j]? = some u → w.cell? (ad.add j) = some u) (h1 : ∀ u ∈ news, u.oneCell' = true)
    (h63 : m ≤ maxLen) (hbytes : m * bytes ≤ 140737488355328) (hbase : base ≤ w.heap.size) (H : Nat) (hH : w.heap.size = H)
    (h : ∀ g cap w', w'.ownsRow base e size (.slice (some ⟨g, 0, none⟩) m cap) m news → w.grownBy w' (some b) → (g = b ∨ g = H) → g < w'.heap.size → wpList P ops Q rest (a.put o.dst (.slice (some ⟨g, 0, none⟩) m cap)) w') :
    wpList P ops Q (o :: rest) a w :=
  wpList_plain hgd fun _ hK => by
    have hw : Region.wanted o (yielded ops a.tmps) = true := by simp [Region.wanted, hgd]
    have := step_append_e (P := P) (ops := ops) (K := fun a' w' => wpList P ops Q rest a' w') (Q := Q) (E := False) w hgd s x t ho base e i z size bytes ht hi hz hsize hby hzs hsz b hs hown A m c news hx hl hnews h1 h63 hbytes hbase H hH h
    rw [if_pos hw] at this
    exact Oper.wp_mono (fun a' w' h' => hK a' w' h') this
theorem news_bytes {w : World} {A : Option Addr} {l : Bs} (h : Row 1 (ByAt w) A l) (hl : 0 < l.length) : ∃ ad, A = some ad ∧ ∀ j u, (l.map u8v)[j]? = some u → w.cell? (ad.add j) = some u := by
  obtain ⟨g, o, hA, hh⟩ := h.at hl
  refine ⟨_, hA, fun j u hu => ?_⟩
  have hj : j < l.length := by have := (List.getElem?_eq_some_iff.1 hu).1; simpa using this
  have := (hh j hj).c0
  rw [Nat.mul_one] at this
  rw [List.getElem?_map, List.getElem?_eq_getElem hj] at hu
  rw [addr_add, this]; simpa using hu
set_option maxRecDepth 100000 in
set_option maxHeartbeats 8000000 in
theorem law_ObjectOnto (A : Option Addr) (l : Bs) (cap : Nat) (w : World) (hl : l.length ≤ 1048576) (hr : Row 1 (ByAt w) A l) :
    Calls Try.prog 9 #[.slice A l.length cap] w fun e w' => e = .returned (.bool true) ∧ Below w.heap.size w w' := by
  obtain ⟨i0, hi, hz0, hz1, hz2⟩ := info_parts infoB
  have HW : Hid (∀ V, Calls Try.prog 11 #[] V fun e w' => e = .returned (.bool true) ∧ Below V.heap.size V w') := Lib.hid awake_any
  have HR := Lib.hid hr
  have HNO : Hid (∀ V, Calls Try.prog 22 #[emptyV, emptyV] V fun e w' => e = .returned (.bool true) ∧ Below V.heap.size V w') := Lib.hid fun V => by
    have := requal_any noP none none none 0 0 0 noP none none none 0 0 0 V (no_at _) (no_at _)
    rw [decide_eq_true rfl] at this
    exact this
  clear hr
  cases hans : ans l with
  | ok p =>
    obtain ⟨hf, hip, hv⟩ := ans_ok hans
    have hbk : Bk p := bk_form (by rw [← hf]; exact hl)
    have HE : Hid (∀ V A B D ca cb cd, PgAt V p A B D ca cb cd → Calls Try.prog 14 #[pv p A B D ca cb cd] V (RetB V l 0)) := Lib.hid fun V A B D ca cb cd h => by
      have := oenc_yes p A B D ca cb cd V h hbk hv
      rw [← hf] at this; exact this
    have HAN := Lib.hid hans
    clear hf hip hv hbk hans
    go_enter Try.func9, Try.ntmps9
    go_wp2_with fail
    refine (HW.out _).mono ?_
    rintro e w1 ⟨rfl, hb1⟩
    have HB1 := Lib.hid hb1
    have HRN : Hid (0 < l.length → ∃ ad, A = some ad ∧ ∀ j u, (l.map u8v)[j]? = some u → (w1.alloc (.cells #[] 5)).cell? (ad.add j) = some u) := Lib.hid fun h => news_bytes (HR.out.imp fun x g o q => q.below (bel_step hb1 (below1 w1 (.cells #[] 5)))) h
    have HOE : Hid ((w1.alloc (.cells #[] 5)).ownsRow w1.heap.size 5 1 (.slice (some ⟨w1.heap.size, 0, none⟩) 0 0) 0 []) := Lib.hid (own_e (heap_alloc_new w1 (.cells #[] 5)) (Nat.le_refl _))
    clear hb1
    go_wp2_with (at_builtin; refine wpList_append_e _ rfl _ _ _ rfl w1.heap.size 5 i0 _ 1 1 Try.underlying22 hi hz0 hz1 hz2 rfl (by omega) w1.heap.size rfl HOE.out A l.length cap (l.map u8v) rfl (by simp) HRN.out (u8_one l) (by unfold maxLen; omega) (by omega) (by simp) (w1.heap.size + 1) (by simp) ?_; intro g3 cap3 w3 hown3 hgr3 hat3 hlt3)
    have ho3 : OwnB w1.heap.size w3 (.slice (some ⟨g3, 0, none⟩) l.length cap3) l := hown3
    obtain ⟨A3, k3, hAe, hc3, hm3, hr3⟩ := ho3.row
    injection hAe with hAe1 _ hAe2
    subst hAe1
    subst hAe2
    have HB3 : Hid (Below w.heap.size w w3) := Lib.hid (bel_step HB1.out ((below1 w1 (.cells #[] 5)).grown hgr3 (by simp) (fun k hk => by cases hk; omega)))
    have HD := odec_any w3 (some ⟨g3, 0, none⟩) l cap3 hc3 hm3 hr3 (by omega)
    rw [HAN.out] at HD
    have HDD := Lib.hid HD
    clear HD ho3 hc3 hm3 hr3 hown3 hgr3 hat3
    go_wp2_with fail
    refine HDD.out.mono ?_
    rintro e w4 ⟨A4, B4, D4, a4, b4, d4, rfl, hp4, hb4⟩
    have HB4 := Lib.hid (bel_step HB3.out hb4)
    have HY := Lib.hid (heap_alloc_new w4 (oPg p A4 B4 D4 a4 b4 d4))
    have hb5 := below1 w4 (oPg p A4 B4 D4 a4 b4 d4)
    have HB5 := Lib.hid (bel_step HB4.out hb5)
    have HP5 := Lib.hid (hp4.below hb5)
    clear hp4 hb4 hb5
    obtain ⟨⟨d0, d1, d2, d3⟩, _⟩ := cells4 HY.out
    go_wp2_with fail
    refine (HE.out _ _ _ _ _ _ _ HP5.out).mono ?_
    rintro e w6 hr
    obtain ⟨A6, k6, rfl, hc6, hm6, hr6, hb6⟩ := hr.val
    have HB6 := Lib.hid (bel_step HB5.out hb6)
    have HSA := same_any w6 A A6 l l cap k6 (HR.out.imp fun x g o q => q.below HB6.out) hr6
    rw [decide_eq_true rfl] at HSA
    have HSS := Lib.hid HSA
    clear hr hb6 hc6 hm6 hr6 HSA d0 d1 d2 d3
    go_wp2_with fail
    refine HSS.out.mono ?_
    rintro e w8 ⟨rfl, rfl⟩
    go_wp2
    go_ret
    exact ⟨rfl, HB6.out⟩
  | form =>
    have HAN := Lib.hid hans
    clear hans
    go_enter Try.func9, Try.ntmps9
    go_wp2_with fail
    refine (HW.out _).mono ?_
    rintro e w1 ⟨rfl, hb1⟩
    have HB1 := Lib.hid hb1
    have HRN : Hid (0 < l.length → ∃ ad, A = some ad ∧ ∀ j u, (l.map u8v)[j]? = some u → (w1.alloc (.cells #[] 5)).cell? (ad.add j) = some u) := Lib.hid fun h => news_bytes (HR.out.imp fun x g o q => q.below (bel_step hb1 (below1 w1 (.cells #[] 5)))) h
    have HOE : Hid ((w1.alloc (.cells #[] 5)).ownsRow w1.heap.size 5 1 (.slice (some ⟨w1.heap.size, 0, none⟩) 0 0) 0 []) := Lib.hid (own_e (heap_alloc_new w1 (.cells #[] 5)) (Nat.le_refl _))
    clear hb1
    go_wp2_with (at_builtin; refine wpList_append_e _ rfl _ _ _ rfl w1.heap.size 5 i0 _ 1 1 Try.underlying22 hi hz0 hz1 hz2 rfl (by omega) w1.heap.size rfl HOE.out A l.length cap (l.map u8v) rfl (by simp) HRN.out (u8_one l) (by unfold maxLen; omega) (by omega) (by simp) (w1.heap.size + 1) (by simp) ?_; intro g3 cap3 w3 hown3 hgr3 hat3 hlt3)
    have ho3 : OwnB w1.heap.size w3 (.slice (some ⟨g3, 0, none⟩) l.length cap3) l := hown3
    obtain ⟨A3, k3, hAe, hc3, hm3, hr3⟩ := ho3.row
    injection hAe with hAe1 _ hAe2
    subst hAe1
    subst hAe2
    have HB3 : Hid (Below w.heap.size w w3) := Lib.hid (bel_step HB1.out ((below1 w1 (.cells #[] 5)).grown hgr3 (by simp) (fun k hk => by cases hk; omega)))
    have HD := odec_any w3 (some ⟨g3, 0, none⟩) l cap3 hc3 hm3 hr3 (by omega)
    rw [HAN.out] at HD
    have HDD := Lib.hid HD
    clear HD ho3 hc3 hm3 hr3 hown3 hgr3 hat3
    go_wp2_with fail
    refine HDD.out.mono ?_
    rintro e w4 ⟨rfl, hb4⟩
    have HB4 := Lib.hid (bel_step HB3.out hb4)
    have HY := Lib.hid (heap_alloc_new w4 zPg)
    have HB5 := Lib.hid (bel_step HB4.out (below1 w4 zPg))
    clear hb4
    obtain ⟨⟨d0, d1, d2, d3⟩, _⟩ := cells4 HY.out
    go_wp2_with fail
    refine (HNO.out _).mono ?_
    rintro e w7 ⟨rfl, hb7⟩
    have HB7 := Lib.hid (bel_step HB5.out hb7)
    clear hb7 d0 d1 d2 d3
    go_wp2
    go_ret
    exact ⟨rfl, HB7.out⟩
  | sum =>
    have HAN := Lib.hid hans
    clear hans
    go_enter Try.func9, Try.ntmps9
    go_wp2_with fail
    refine (HW.out _).mono ?_
    rintro e w1 ⟨rfl, hb1⟩
    have HB1 := Lib.hid hb1
    have HRN : Hid (0 < l.length → ∃ ad, A = some ad ∧ ∀ j u, (l.map u8v)[j]? = some u → (w1.alloc (.cells #[] 5)).cell? (ad.add j) = some u) := Lib.hid fun h => news_bytes (HR.out.imp fun x g o q => q.below (bel_step hb1 (below1 w1 (.cells #[] 5)))) h
    have HOE : Hid ((w1.alloc (.cells #[] 5)).ownsRow w1.heap.size 5 1 (.slice (some ⟨w1.heap.size, 0, none⟩) 0 0) 0 []) := Lib.hid (own_e (heap_alloc_new w1 (.cells #[] 5)) (Nat.le_refl _))
    clear hb1
    go_wp2_with (at_builtin; refine wpList_append_e _ rfl _ _ _ rfl w1.heap.size 5 i0 _ 1 1 Try.underlying22 hi hz0 hz1 hz2 rfl (by omega) w1.heap.size rfl HOE.out A l.length cap (l.map u8v) rfl (by simp) HRN.out (u8_one l) (by unfold maxLen; omega) (by omega) (by simp) (w1.heap.size + 1) (by simp) ?_; intro g3 cap3 w3 hown3 hgr3 hat3 hlt3)
    have ho3 : OwnB w1.heap.size w3 (.slice (some ⟨g3, 0, none⟩) l.length cap3) l := hown3
    obtain ⟨A3, k3, hAe, hc3, hm3, hr3⟩ := ho3.row
    injection hAe with hAe1 _ hAe2
    subst hAe1
    subst hAe2
    have HB3 : Hid (Below w.heap.size w w3) := Lib.hid (bel_step HB1.out ((below1 w1 (.cells #[] 5)).grown hgr3 (by simp) (fun k hk => by cases hk; omega)))
    have HD := odec_any w3 (some ⟨g3, 0, none⟩) l cap3 hc3 hm3 hr3 (by omega)
    rw [HAN.out] at HD
    have HDD := Lib.hid HD
    clear HD ho3 hc3 hm3 hr3 hown3 hgr3 hat3
    go_wp2_with fail
    refine HDD.out.mono ?_
    rintro e w4 ⟨rfl, hb4⟩
    have HB4 := Lib.hid (bel_step HB3.out hb4)
    have HY := Lib.hid (heap_alloc_new w4 zPg)
    have HB5 := Lib.hid (bel_step HB4.out (below1 w4 zPg))
    clear hb4
    obtain ⟨⟨d0, d1, d2, d3⟩, _⟩ := cells4 HY.out
    go_wp2_with fail
    refine (HNO.out _).mono ?_
    rintro e w7 ⟨rfl, hb7⟩
    have HB7 := Lib.hid (bel_step HB5.out hb7)
    clear hb7 d0 d1 d2 d3
    go_wp2
    go_ret
    exact ⟨rfl, HB7.out⟩
  | arg =>
    have HAN := Lib.hid hans
    clear hans
    go_enter Try.func9, Try.ntmps9
    go_wp2_with fail
    refine (HW.out _).mono ?_
    rintro e w1 ⟨rfl, hb1⟩
    have HB1 := Lib.hid hb1
    have HRN : Hid (0 < l.length → ∃ ad, A = some ad ∧ ∀ j u, (l.map u8v)[j]? = some u → (w1.alloc (.cells #[] 5)).cell? (ad.add j) = some u) := Lib.hid fun h => news_bytes (HR.out.imp fun x g o q => q.below (bel_step hb1 (below1 w1 (.cells #[] 5)))) h
    have HOE : Hid ((w1.alloc (.cells #[] 5)).ownsRow w1.heap.size 5 1 (.slice (some ⟨w1.heap.size, 0, none⟩) 0 0) 0 []) := Lib.hid (own_e (heap_alloc_new w1 (.cells #[] 5)) (Nat.le_refl _))
    clear hb1
    go_wp2_with (at_builtin; refine wpList_append_e _ rfl _ _ _ rfl w1.heap.size 5 i0 _ 1 1 Try.underlying22 hi hz0 hz1 hz2 rfl (by omega) w1.heap.size rfl HOE.out A l.length cap (l.map u8v) rfl (by simp) HRN.out (u8_one l) (by unfold maxLen; omega) (by omega) (by simp) (w1.heap.size + 1) (by simp) ?_; intro g3 cap3 w3 hown3 hgr3 hat3 hlt3)
    have ho3 : OwnB w1.heap.size w3 (.slice (some ⟨g3, 0, none⟩) l.length cap3) l := hown3
    obtain ⟨A3, k3, hAe, hc3, hm3, hr3⟩ := ho3.row
    injection hAe with hAe1 _ hAe2
    subst hAe1
    subst hAe2
    have HB3 : Hid (Below w.heap.size w w3) := Lib.hid (bel_step HB1.out ((below1 w1 (.cells #[] 5)).grown hgr3 (by simp) (fun k hk => by cases hk; omega)))
    have HD := odec_any w3 (some ⟨g3, 0, none⟩) l cap3 hc3 hm3 hr3 (by omega)
    rw [HAN.out] at HD
    have HDD := Lib.hid HD
    clear HD ho3 hc3 hm3 hr3 hown3 hgr3 hat3
    go_wp2_with fail
    refine HDD.out.mono ?_
    rintro e w4 ⟨rfl, hb4⟩
    have HB4 := Lib.hid (bel_step HB3.out hb4)
    have HY := Lib.hid (heap_alloc_new w4 zPg)
    have HB5 := Lib.hid (bel_step HB4.out (below1 w4 zPg))
    clear hb4
    obtain ⟨⟨d0, d1, d2, d3⟩, _⟩ := cells4 HY.out
    go_wp2_with fail
    refine (HNO.out _).mono ?_
    rintro e w7 ⟨rfl, hb7⟩
    have HB7 := Lib.hid (bel_step HB5.out hb7)
    clear hb7 d0 d1 d2 d3
    go_wp2
    go_ret
    exact ⟨rfl, HB7.out⟩
end Go.Proofs.Ytlkaeonedijfpaa
