/-
  The walks of the program's Uses and Defs.
-/
import Derived.Test.YtekfhgldebhigaaDoorEC
import Derived.Test.YtekfhgldebhigaaDoorMF
set_option linter.all false
namespace Go.Proofs.YtekfhgldebhigaaDoor
open Go.RowKit C
theorem smooth_of {p : Pg} (hv : validB p = true) {f : Fc} (hf : f ∈ p.funcs) : Smooth p f :=
  ⟨fun v h0 h1 => by have := (valid_fn hv (getD_mem ⟨h0, h1⟩)).par; omega, by have := (valid_fn hv hf).par; omega⟩
theorem insF_true {p : Pg} {fn pc : Int} (h : (insF p fn pc).2 = true) : ∃ (h1 : fn.toNat < p.funcs.length) (h2 : pc.toNat < p.funcs[fn.toNat].code.length), 0 ≤ fn ∧ 0 ≤ pc ∧ ¬ p.funcs[fn.toNat].code[pc.toNat].op = 51 ∧ (insF p fn pc).1 = p.funcs[fn.toNat].code[pc.toNat] := by
  unfold insF at h ⊢
  split at h
  · rename_i hc
    rw [if_pos hc]
    obtain ⟨h0, h1, h2, h3, h4⟩ := hc
    simp only [C.len] at h1 h3
    have e1 : fn.toNat < p.funcs.length := by omega
    have e2 : p.funcs.getD fn.toNat default = p.funcs[fn.toNat] := getDF e1
    rw [e2] at h3 h4
    have e3 : pc.toNat < p.funcs[fn.toNat].code.length := by omega
    refine ⟨e1, e3, h0, h2, ?_, ?_⟩
    · rw [getDI e3] at h4; exact h4
    · simp only [e2]; exact getDI e3
  · cases h
/-- What Defs, what Uses answers. -/
def defsF (p : Pg) (fn pc : Int) : List Int := if (insF p fn pc).2 then defsI (insF p fn pc).1 else []
def usesF (p : Pg) (fn pc : Int) : List Int := if (insF p fn pc).2 then usesI p (p.funcs.getD fn.toNat default) pc.toNat (insF p fn pc).1 else []
theorem dst_three {x : In} {q0 q1 q2 : UInt8} (h : rolesP x = [q0, q1, q2]) : dstL x = dstOne q0 x.a ++ dstOne q1 x.b ++ dstOne q2 x.c := by unfold dstL; rw [h]
theorem src_three {p : Pg} {x : In} {q0 q1 q2 : UInt8} (h : rolesP x = [q0, q1, q2]) : srcL p x = srcOne p x q0 x.a ++ srcOne p x q1 x.b ++ srcOne p x q2 x.c := by unfold srcL; rw [h]
theorem rolesP_some {p : Pg} {f : Fc} {x : In} (H : Smooth p f) (hs : small x) (hi : instrB p f x = true) : ∃ q0 q1 q2, rolesP x = [q0, q1, q2] := by
  rcases rolesP_ok x with h | ⟨q0, q1, q2, h, _⟩
  · have := fits_eq H hs
    rw [hi] at this
    unfold fitsP at this
    rw [h] at this
    simp at this
  · exact ⟨q0, q1, q2, h⟩
theorem nonneg_len (l : List Int) : (nonneg l).length ≤ l.length := List.length_filter_le _ _
/-- The sources of an instruction, by the program. -/
theorem src_call (p : Pg) (A B D : Option Addr) (ca cb cd : Nat) (x : In) (w : World) (hp : PgAt w p A B D ca cb cd) {f : Fc} (H : Smooth p f) (hs : small x) (hi : instrB p f x = true) :
    Calls Tryd.prog 37 #[pv p A B D ca cb cd, xv x] w (RetOwn (srcL p x) w) ∧ (srcL p x).length ≤ 192 := by
  obtain ⟨q0, q1, q2, h⟩ := rolesP_some H hs hi
  obtain ⟨a0, a1, a2⟩ := (reg_all H hi).2.2 q0 q1 q2 h
  rw [src_three h]
  refine ⟨sources_any p A B D ca cb cd x w hp q0 q1 q2 h a0 a1 a2, ?_⟩
  have := srcOne_len a0; have := srcOne_len a1; have := srcOne_len a2
  simp only [List.length_append]; omega
theorem dst_call {p : Pg} (x : In) (w : World) {f : Fc} (H : Smooth p f) (hs : small x) (hi : instrB p f x = true) :
    Calls Tryd.prog 41 #[xv x] w (RetOwn (dstL x) w) ∧ (dstL x).length ≤ 192 := by
  obtain ⟨q0, q1, q2, h⟩ := rolesP_some H hs hi
  rw [dst_three h]
  refine ⟨destinations_any x w q0 q1 q2 h, ?_⟩
  have := @dstOne_len q0 x.a; have := @dstOne_len q1 x.b; have := @dstOne_len q2 x.c
  simp only [List.length_append]; omega
set_option maxRecDepth 100000 in
set_option maxHeartbeats 4000000 in
theorem cdefs_any (p : Pg) (A B D : Option Addr) (ca cb cd : Nat) (fn pc : Int) (w : World) (hp : PgAt w p A B D ca cb cd) (hv : validB p = true) (bf : i64 fn) (bp : i64 pc) :
    Calls Tryd.prog 14 #[pv p A B D ca cb cd, .int .i64 fn, .int .i64 pc] w (RetOwn (defsF p fn pc) w) := by
  have HI : Hid (∀ V, Below w.heap.size w V → Calls Tryd.prog 36 #[pv p A B D ca cb cd, .int .i64 fn, .int .i64 pc] V fun e w' => e = .returned (.tuple #[xv (insF p fn pc).1, .bool (insF p fn pc).2]) ∧ Below V.heap.size V w') := Lib.hid fun V hV => instruction_any p A B D ca cb cd fn pc V (hp.below hV) hv bf bp
  cases hb : (insF p fn pc).2 with
  | false =>
    have HR : Hid (defsF p fn pc = []) := Lib.hid (by unfold defsF; rw [hb]; rfl)
    obtain ⟨x, hx⟩ : ∃ x, (insF p fn pc).1 = x := ⟨_, rfl⟩
    simp only [hb, hx] at HI
    clear hb hx hp
    go_enter Tryd.func14, Tryd.ntmps14
    go_wp2_with fail
    refine (HI.out _ (below1 _ _)).mono ?_
    rintro e w2 ⟨rfl, hw2⟩
    go_wp2
    go_ret
    exact ⟨_, rfl, by rw [HR.out]; exact World.ownsRow_nil _ _ _ _, ((below1 _ _).trans (hw2.mono (by simp))).alloc (by have := hw2.size; simp at this; omega) _⟩
  | true =>
    obtain ⟨h1, h2, k0, k1, h51, hx⟩ := insF_true hb
    have hm := List.getElem_mem h1
    have H := valid_fn hv hm
    have hi := (seq_at p _ _ 0 H.seq _ h2).1
    have hsm := hp.small _ hm _ (List.getElem_mem h2)
    obtain ⟨x, hxe⟩ : ∃ x, p.funcs[fn.toNat].code[pc.toNat] = x := ⟨_, rfl⟩
    rw [hxe] at h51 hx hi hsm
    have HS := smooth_of hv hm
    have hroles : ¬ roles x.op = [] := by obtain ⟨r0, r1, r2, er, _⟩ := instr_parts hi; rw [er]; simp
    have HR : Hid (insAll [] (nonneg (dstL x)) = defsF p fn pc) := Lib.hid (by
      unfold defsF
      rw [hb, hx, if_pos rfl]
      unfold defsI
      rw [if_neg (by simp [hroles, h51])]
      exact insAll_congr ((reg_all HS hi).2.1 h51))
    have HD : Hid (∀ V, Calls Tryd.prog 41 #[xv x] V (RetOwn (dstL x) V)) := Lib.hid fun V => (dst_call x V HS hsm hi).1
    have hl := (dst_call x w HS hsm hi).2
    have hl2 := nonneg_len (dstL x)
    simp only [hb, hx] at HI
    clear hb hx hxe hp H hi hsm HS hroles h51 hm
    go_enter Tryd.func14, Tryd.ntmps14
    go_wp2_with fail
    refine (HI.out _ (below1 _ _)).mono ?_
    rintro e w2 ⟨rfl, hw2⟩
    have hB2 := Lib.hid ((below1 w (.cells #[.slice A p.funcs.length ca, .slice B p.globals.length cb, .slice D p.layouts.length cd, .int .i64 p.main] 26)).trans (hw2.mono (by simp)))
    clear hw2
    go_wp2_with fail
    refine (HD.out _).mono ?_
    rintro e w3 ⟨v3, rfl, ho3, hb3⟩
    have hB3 := Lib.hid ((hB2.out.alloc hB2.out.size (.cells #[.int .i64 x.op, .int .i64 x.a, .int .i64 x.b, .int .i64 x.c, .int .i64 x.at'] 34)).trans (hb3.mono (by have := hB2.out.size; simp; omega)))
    have HO3 := Lib.hid ho3
    have hs3 := hb3.size
    clear ho3
    go_wp2_with fail
    refine (existing_own _ v3 (dstL x) w3 hs3 HO3.out (by omega)).mono ?_
    rintro e w4 ⟨v4, rfl, ho4, hb4⟩
    have HO4 := Lib.hid ho4
    have hs4 := hb4.size
    clear ho4
    go_wp2_with fail
    refine (ordered_own _ v4 (nonneg (dstL x)) w4 (Nat.le_trans hs3 hs4) HO4.out (by omega)).mono ?_
    rintro e w5 ⟨v5, rfl, ho5, hb5⟩
    go_wp2
    go_ret
    have hsz : w.heap.size ≤ (w2.alloc (.cells #[.int .i64 x.op, .int .i64 x.a, .int .i64 x.b, .int .i64 x.c, .int .i64 x.at'] 34)).heap.size := by have := hB2.out.size; simp; omega
    exact ⟨_, rfl, by rw [← HR.out]; exact own_weak ho5 hsz, hB3.out.trans ((hb4.mono hsz).trans (hb5.mono hsz))⟩
theorem own_keep2 {w w' : World} {base n : Nat} {v : Value} {xs : List Value} (h : w.ownsRow base 3 1 v n xs) (hb : Below w.heap.size w w') : w'.ownsRow base 3 1 v n xs := own_keep h hb
theorem B1.grownK {p : Pg} {A B D : Option Addr} {ca cb cd : Nat} {w V w' : World} {row : Option Nat} (h : B1 p A B D ca cb cd w V) (hg : V.grownBy w' row) (hs : w.heap.size + 1 ≤ V.heap.size) (hr : ∀ j, row = some j → w.heap.size + 1 ≤ j) : B1 p A B D ca cb cd w w' := by
  have hb : Below (w.heap.size + 1) V w' := (Below.refl _ V).grown hg hs hr
  obtain ⟨y0, y1, y2, y3, yb⟩ := h
  have c : ∀ o, w'.cell? ⟨w.heap.size, o, none⟩ = V.cell? ⟨w.heap.size, o, none⟩ := fun o => hb.cell (p := ⟨w.heap.size, o, none⟩) (by simp)
  exact ⟨by rw [c]; exact y0, by rw [c]; exact y1, by rw [c]; exact y2, by rw [c]; exact y3, yb.trans (hb.mono (by omega))⟩
theorem lead_pre {l : List In} {m : Nat} (hm : leadC l = m) : m ≤ l.length ∧ ∀ j (hj : j < m) (h : j < l.length), l[j].op = 51 := by
  induction l generalizing m with
  | nil => simp [leadC] at hm; subst hm; exact ⟨Nat.le_refl _, fun j hj => by omega⟩
  | cons x r ih =>
    unfold leadC at hm
    split at hm
    · rename_i hx
      obtain ⟨i1, i2⟩ := ih rfl
      refine ⟨by simp; omega, fun j hj h => ?_⟩
      cases j with
      | zero => exact hx
      | succ j => exact i2 j (by omega) (by simpa using h)
    · subst hm; exact ⟨Nat.zero_le _, fun j hj => by omega⟩
theorem tails_at {l : List In} (h : tailsOk l = true) {k : Nat} (hk : k < l.length) (h51 : ¬ l[k].op = 51) : (leadC (l.drop (k + 1)) : Int) = if l[k].op = 50 then l[k].b else 0 := by
  have : tailsOk (l.drop k) = true := by
    rw [← Bool.not_eq_false]; intro hb; rw [tails_bad l k hb] at h; cases h
  rw [tails_drop hk] at this
  simp only [Bool.and_eq_true, Bool.or_eq_true, decide_eq_true_eq, h51, false_or] at this
  exact this.1
def casesL (l : List In) (k : Nat) : List Int := ((l.take k).map caseRd).flatten
theorem casesL_succ {l : List In} {k : Nat} (h : k < l.length) : casesL l (k + 1) = casesL l k ++ caseRd l[k] := by
  unfold casesL
  rw [List.take_succ_eq_append_getElem h, List.map_append, List.flatten_append]; simp
theorem caseRd_len (x : In) : 0 < (caseRd x).length ∧ (caseRd x).length ≤ 2 := by unfold caseRd; split <;> simp
theorem casesL_len (l : List In) : ∀ k, (casesL l k).length ≤ 2 * k
  | 0 => by simp [casesL]
  | k + 1 => by
    by_cases h : k < l.length
    · rw [casesL_succ h, List.length_append]; have := casesL_len l k; have := (caseRd_len l[k]).2; omega
    · have e : casesL l (k + 1) = casesL l k := by unfold casesL; rw [List.take_of_length_le (by omega), List.take_of_length_le (by omega)]
      rw [e]; have := casesL_len l k; omega
theorem nonneg_all {l : List Int} (h : ∀ n ∈ l, 0 ≤ n) : nonneg l = l := by
  unfold nonneg
  rw [List.filter_eq_self]
  intro a ha; have := h a ha; simp; omega
set_option maxRecDepth 100000 in
set_option maxHeartbeats 8000000 in
theorem cuses_any (p : Pg) (A B D : Option Addr) (ca cb cd : Nat) (fn pc : Int) (w : World) (hp : PgAt w p A B D ca cb cd) (hv : validB p = true) (bf : i64 fn) (bp : i64 pc) :
    Calls Tryd.prog 13 #[pv p A B D ca cb cd, .int .i64 fn, .int .i64 pc] w (RetOwn (usesF p fn pc) w) := by
  have HI : Hid (∀ V, Below w.heap.size w V → Calls Tryd.prog 36 #[pv p A B D ca cb cd, .int .i64 fn, .int .i64 pc] V fun e w' => e = .returned (.tuple #[xv (insF p fn pc).1, .bool (insF p fn pc).2]) ∧ Below V.heap.size V w') := Lib.hid fun V hV => instruction_any p A B D ca cb cd fn pc V (hp.below hV) hv bf bp
  cases hb : (insF p fn pc).2 with
  | false =>
    have HR : Hid (usesF p fn pc = []) := Lib.hid (by unfold usesF; rw [hb]; rfl)
    obtain ⟨x, hx⟩ : ∃ x, (insF p fn pc).1 = x := ⟨_, rfl⟩
    simp only [hb, hx] at HI
    clear hb hx hp
    go_enter Tryd.func13, Tryd.ntmps13
    go_wp2_with fail
    refine (HI.out _ (below1 _ _)).mono ?_
    rintro e w2 ⟨rfl, hw2⟩
    go_wp2
    go_ret
    exact ⟨_, rfl, by rw [HR.out]; exact World.ownsRow_nil _ _ _ _, ((below1 _ _).trans (hw2.mono (by simp))).alloc (by have := hw2.size; simp at this; omega) _⟩
  | true =>
    obtain ⟨h1, h2, k0, k1, h51, hx⟩ := insF_true hb
    have hm := List.getElem_mem h1
    have H := valid_fn hv hm
    have hi := (seq_at p _ _ 0 H.seq _ h2).1
    have hsm := hp.small _ hm _ (List.getElem_mem h2)
    obtain ⟨f, hfe⟩ : ∃ f, p.funcs[fn.toNat] = f := ⟨_, rfl⟩
    have HP := Lib.hid hp
    obtain ⟨gA, oA, rfl, hA⟩ := hp.fs.at (by omega)
    have hfx := hA fn.toNat h1
    rw [hfe] at hfx
    have hfd : p.funcs.getD fn.toNat default = f := by rw [getDF h1, hfe]
    simp only [hfe] at h2 h51 hx hi hsm hm H
    obtain ⟨x, hxe⟩ : ∃ x, f.code[pc.toNat] = x := ⟨_, rfl⟩
    rw [hxe] at h51 hx hi hsm
    have HS := smooth_of hv hm
    have hroles : ¬ roles x.op = [] := by obtain ⟨r0, r1, r2, er, _⟩ := instr_parts hi; rw [er]; simp
    have HU : Hid (usesF p fn pc = insAll [] (((rolesOf x).map rd).flatten ++ more p f pc.toNat x)) := Lib.hid (by
      unfold usesF
      rw [hb, hx, if_pos rfl, hfd]
      unfold usesI
      rw [if_neg (by simp [hroles, h51])])
    have HC : Hid (∀ V, Below w.heap.size w V → Calls Tryd.prog 37 #[pv p (some ⟨gA, oA, none⟩) B D ca cb cd, xv x] V (RetOwn (srcL p x) V)) := Lib.hid fun V hV => (src_call p (some ⟨gA, oA, none⟩) B D ca cb cd x V (hp.below hV) HS hsm hi).1
    have hl := (src_call p (some ⟨gA, oA, none⟩) B D ca cb cd x w hp HS hsm hi).2
    have hl2 := nonneg_len (srcL p x)
    have HN := Lib.hid (B1.new p (some ⟨gA, oA, none⟩) B D ca cb cd w)
    simp only [hb, hx] at HI
    clear hb hx
    by_cases h50 : x.op = 50
    · have d1 : ((x.op : Int) == 50) = true := by simp [h50]
      have hlast := H.last
      have hpl : pc.toNat + 1 < f.code.length := by
        by_cases c : pc.toNat = f.code.length - 1
        · exfalso
          rw [last_getD (by omega)] at hlast
          simp only [← c, hxe] at hlast
          omega
        · omega
      have htl : tailsOk f.code = true := by
        have h3 := hv
        rw [← validP_eq hp.small] at h3
        unfold validP at h3
        simp only [Bool.and_eq_true, List.all_eq_true] at h3
        have h4 := h3.2 f hm
        unfold fnP casesP at h4
        simp only [Bool.and_eq_true] at h4
        exact h4.1.2.1
      have hlead := tails_at htl h2 (by rw [hxe]; exact h51)
      rw [hxe, if_pos h50] at hlead
      obtain ⟨m, hm2⟩ : ∃ m, leadC (f.code.drop (pc.toNat + 1)) = m := ⟨_, rfl⟩
      rw [hm2] at hlead
      obtain ⟨hml, hmop⟩ := lead_pre hm2
      have hb8 : 0 ≤ x.b ∧ x.b ≤ 8 := by
        obtain ⟨r0, r1, r2, er, _, _, hbb, _⟩ := instr_parts hi
        rw [h50, show roles 50 = [100, 115, 98] by decide] at er
        simp only [List.cons.injEq] at er; obtain ⟨rfl, rfl, rfl, _⟩ := er
        simpa [operandB] using hbb
      have hsrc : srcL p x = [] := by
        have : rolesP x = [100, 99, 98] := by rw [rolesP_in (by omega) (by omega), h50]; rfl
        unfold srcL; rw [this]; simp [srcOne]
      obtain ⟨L, hL⟩ : ∃ L, f.code.drop (pc.toNat + 1) = L := ⟨_, rfl⟩
      rw [hL] at hml hmop hm2
      have HCS : Hid (∀ k (h : k < L.length), k < m → ∀ V, Below w.heap.size w V → Calls Tryd.prog 37 #[pv p (some ⟨gA, oA, none⟩) B D ca cb cd, xv L[k]] V (RetOwn (caseRd L[k]) V)) := Lib.hid fun k h hk V hV => by
        have hin : L[k] = f.code[pc.toNat + 1 + k]'(by have := congrArg List.length hL; simp at this; omega) := by subst hL; simp
        have hii := (seq_at p _ _ 0 H.seq (pc.toNat + 1 + k) (by have := congrArg List.length hL; simp at this; omega)).1
        rw [← hin] at hii
        have hs2 := hp.small _ hm L[k] (by rw [hin]; exact List.getElem_mem _)
        have := (src_call p (some ⟨gA, oA, none⟩) B D ca cb cd L[k] V (hp.below hV) HS hs2 hii).1
        rwa [(reg_51 hii (hmop k hk h)).2.1] at this
      have HR : Hid (insAll [] (nonneg (casesL L m)) = usesF p fn pc) := Lib.hid (by
        rw [HU.out]
        have hmo : more p f pc.toNat x = casesL L m := by
          unfold more casesL
          rw [if_neg (by omega), if_neg (by omega), if_neg (by omega), if_neg (by omega), if_pos h50, hL, ← hlead]
          simp
        have hro : ((rolesOf x).map rd).flatten = [] := by
          unfold rolesOf; rw [h50, show roles 50 = [100, 115, 98] by decide]; simp [rd]
        rw [hmo, hro, List.nil_append]
        congr 1
        refine nonneg_all fun n hn => ?_
        have hmr := more_range hv hm h2 n (by rw [hxe, hmo]; exact hn)
        exact hmr.1)
      obtain ⟨Af, caf, hq3, hvv⟩ := hfx.ok
      obtain ⟨gC, oC, rfl, hC⟩ := hvv.row.at (by omega)
      have hcap := hvv.k.1
      have hmx := hvv.k.2
      unfold maxLen at hmx
      have h1000 := H.len.2
      have hcut : ¬ caf = pc.toNat + 1 := by omega
      have HLD : Hid (∀ V, Below w.heap.size w V → ∀ n c, n = f.code.length - (pc.toNat + 1) ∧ c = caf - (pc.toNat + 1) → Calls Tryd.prog 38 #[.slice (some ⟨gC, oC + (pc.toNat + 1) * 5, none⟩) n c] V fun e w' => e = .returned (.slice (some ⟨gC, oC + (pc.toNat + 1) * 5, none⟩) m c) ∧ Below V.heap.size V w') := Lib.hid fun V hV n c ⟨hn, hc⟩ => by
        have hl3 : (f.code.drop (pc.toNat + 1)).length = n := by rw [List.length_drop, hn]
        have := lead_any (some ⟨gC, oC + (pc.toNat + 1) * 5, none⟩) (f.code.drop (pc.toNat + 1)) c V (by unfold maxLen; rw [hl3]; omega) (by rw [hl3]; omega) (Row.drop (fun i h => (hC i h).below hV) _)
        rw [hl3, hL, hm2] at this
        exact this
      have HRow : Hid (∀ k (h : k < L.length), InAt w L[k] gC (oC + (pc.toNat + 1) * 5 + k * 5)) := Lib.hid fun k h => by
        rcases Row.drop (R := InAt w) hC (pc.toNat + 1) with e | ⟨g', o', e, hh⟩
        · rw [hL] at e; rw [e] at h; cases h
        · simp only [Option.some.injEq, Addr.mk.injEq, and_true] at e
          obtain ⟨rfl, rfl⟩ := e
          have := hh k (by rw [hL]; exact h)
          simpa [hL] using this
      have HFN := Lib.hid hfx
      have HQ3 := Lib.hid hq3
      have kk1 : fn < (p.funcs.length : Int) := by omega
      have kk2 : pc + 1 ≤ (f.code.length : Int) := by omega
      have kk3 : 0 ≤ pc + 1 := by omega
      have kk4 : (f.code.length : Int) ≤ (caf : Int) := by omega
      have epc : (pc + 1).toNat = pc.toNat + 1 := by omega
      rw [hsrc] at HC
      obtain ⟨i0, hii, hz0, hz1, hz2⟩ := info_parts infoI
      clear hp H hi hsm HS hroles h51 hm hA hfx hq3 hvv hC hlast htl hxe hfe hfd hm2 hL hl hl2 h50 hsrc
      go_enter Tryd.func13, Tryd.ntmps13
      go_wp2_with fail
      refine (HI.out _ (below1 _ _)).mono ?_
      rintro e w2 ⟨rfl, hw2⟩
      have hb2 := Lib.hid (HN.out.keep hw2)
      obtain ⟨y00, y01, y02, y03, yb⟩ := hb2.out
      have hB2 := Lib.hid yb
      clear hw2 yb
      have n0 : w.heap.size ≠ w2.heap.size := by have := World.block_lt_of_cell? w2 _ y00; intro e; simp only at this; omega
      have m0 : w.heap.size < w2.heap.size := by have := World.block_lt_of_cell? w2 _ y00; simpa using this
      have hx2 := Lib.hid (BX1.new x w2)
      go_wp2_with fail
      refine (HC.out _ (hB2.out.alloc hB2.out.size _)).mono ?_
      rintro e w3 ⟨v3, rfl, ho3, hb3⟩
      have hb3B := Lib.hid ((hb2.out.keep (below1 _ _)).keep hb3)
      have HO3 := Lib.hid ho3
      have hs3 := hb3.size
      rw [World.size_alloc] at hs3
      obtain ⟨z0, z1, z2, z3, z4, zb⟩ := hx2.out.keep hb3
      clear y00 y01 y02 y03 zb ho3 hb3 n0
      obtain ⟨y00, y01, y02, y03, yb⟩ := hb3B.out
      have q3 := (bl_cell yb HFN.out.lt).trans HQ3.out
      have hB3 := Lib.hid yb
      clear yb
      go_wp2_with fail
      refine (HLD.out _ hB3.out _ _ ⟨by omega, by omega⟩).mono ?_
      rintro e w4 ⟨rfl, hw4⟩
      have hb4B := Lib.hid (hb3B.out.keep hw4)
      have HO4 := Lib.hid (own_keep2 HO3.out hw4)
      have hs4 := hw4.size
      clear y00 y01 y02 y03 q3 z0 z1 z2 z3 z4
      go_wp2
      go_loopw [9, 38] (fun v i wr => ∃ k : Nat, k ≤ m ∧ i = .int .i64 k ∧ Hid (wr.ownsRow (w2.alloc (.cells #[.int .i64 x.op, .int .i64 x.a, .int .i64 x.b, .int .i64 x.c, .int .i64 x.at'] 34)).heap.size 3 1 v (casesL L k).length ((casesL L k).map (Value.int .i64))) ∧ (w2.alloc (.cells #[.int .i64 x.op, .int .i64 x.a, .int .i64 x.b, .int .i64 x.c, .int .i64 x.at'] 34)).heap.size ≤ wr.heap.size ∧ Hid (B1 p (some ⟨gA, oA, none⟩) B D ca cb cd w wr)) (fun _ i _ => m - (intOf i).toNat)
      case atStart => exact ⟨0, Nat.zero_le _, rfl, HO4, by rw [World.size_alloc]; omega, hb4B⟩
      case round =>
        clear HO4 hb4B HO3 hb3B
        obtain ⟨k, hk, rfl, ho, hsz, hbx⟩ := hrel
        obtain ⟨y00, y01, y02, y03, yb⟩ := hbx.out
        have HYB := Lib.hid yb
        clear yb
        rw [World.size_alloc] at hsz
        have m1 : w.heap.size < wr.heap.size := by omega
        have n1 : w.heap.size ≠ wr.heap.size := by omega
        by_cases hlt : k < m
        · have hx := (HRow.out k (by omega)).below HYB.out
          have HCC := Lib.hid (HCS.out k (by omega) hlt)
          have hSucc := Lib.hid (casesL_succ (l := L) (k := k) (by omega))
          obtain ⟨u, hue⟩ : ∃ u, L[k]'(by omega) = u := ⟨_, rfl⟩
          rw [hue] at hx HCC hSucc
          have q0 := hx.c0
          have q1 := hx.c1
          have q2 := hx.c2
          have q3 := hx.c3
          have q4 := hx.c4
          obtain ⟨acc, hacc⟩ : ∃ acc, casesL L k = acc := ⟨_, rfl⟩
          have hal := casesL_len L k
          rw [hacc] at ho hSucc hal
          obtain ⟨n, hn⟩ : ∃ n, (caseRd u).length = n := ⟨_, rfl⟩
          have hn0 := (caseRd_len u).1
          have hn2 := (caseRd_len u).2
          obtain ⟨cl, hcl⟩ : ∃ cl, caseRd u = cl := ⟨_, rfl⟩
          rw [hcl] at HCC hSucc hn hn0 hn2
          clear hx hue hacc hcl
          go_wp2_with fail
          refine (HCC.out _ (HYB.out.alloc HYB.out.size _)).mono ?_
          rintro e w5 ⟨vc, rfl, hoc, hwc⟩
          have ho5 := Lib.hid (own_keep (ho.out.alloc _) hwc)
          have hwc5 := hwc.size
          rw [World.size_alloc] at hwc5
          have hbx5 := Lib.hid ((hbx.out.keep (below1 _ _)).keep hwc)
          rw [hn] at hoc
          have HOC := Lib.hid hoc
          clear hoc hwc q0 q1 q2 q3 q4 y00 y01 y02 y03
          obtain ⟨gc, capc, rfl, hgb, hgl⟩ := HOC.out.form (by omega)
          rw [World.size_alloc] at hgb
          have HCE := Lib.hid (HOC.out.cells (g := gc) rfl)
          go_wp2_with (at_builtin; refine wpList_append_lies _ rfl _ _ _ rfl ((w2.alloc (.cells #[.int .i64 x.op, .int .i64 x.a, .int .i64 x.b, .int .i64 x.c, .int .i64 x.at'] 34)).heap.size) 3 i0 _ 1 8 Tryd.underlying39 hii hz0 hz1 hz2 rfl (by omega) u9 acc.length (acc.map (Value.int .i64)) rfl (ho5.out) ⟨gc, 0, none⟩ n capc (cl.map (Value.int .i64)) rfl (by simp [hn]) (HCE.out) (by intro u hu; obtain ⟨z, _, rfl⟩ := List.mem_map.1 hu; rfl) (by omega) (by unfold maxLen; omega) (by omega) (by first | omega | (simp; omega)) (w5.heap.size) (by first | rfl | simp) ?_; intro g1 cap1 w6 hown1 hgrow1 hat1 hlt1)
          have HT : Hid (w6.ownsRow (w2.alloc (.cells #[.int .i64 x.op, .int .i64 x.a, .int .i64 x.b, .int .i64 x.c, .int .i64 x.at'] 34)).heap.size 3 1 (.slice (some ⟨g1, 0, none⟩) (casesL L (k + 1)).length cap1) (casesL L (k + 1)).length ((casesL L (k + 1)).map (Value.int .i64))) := Lib.hid (by
            rw [hSucc.out, List.length_append, List.map_append, hn]; exact hown1)
          have HE : Hid ((casesL L (k + 1)).length = acc.length + n) := Lib.hid (by rw [hSucc.out, List.length_append, hn])
          rw [HE.out] at HT
          have HB6 := Lib.hid (hbx5.out.grownK hgrow1 (by omega) (fun j hj => by have := (ho.out.lt j hj).1; rw [World.size_alloc] at this; omega))
          have hz6 : (w2.alloc (.cells #[.int .i64 x.op, .int .i64 x.a, .int .i64 x.b, .int .i64 x.c, .int .i64 x.at'] 34)).heap.size ≤ w6.heap.size := by have := hgrow1.size; rw [World.size_alloc]; omega
          clear hown1 hgrow1 hat1
          go_wp2
          go_roundw
          case rel => exact ⟨k + 1, by omega, by first | rfl | go_num, Lib.hid (by rw [HE.out]; exact HT.out), hz6, HB6⟩
          case measure => simp [intOf]; omega
        · obtain rfl : k = m := by omega
          have hal := casesL_len L k
          have hnl := nonneg_len (casesL L k)
          go_wp2_with fail
          refine (existing_own _ _ (casesL L k) wr (by rw [World.size_alloc]; omega) ho.out (by omega)).mono ?_
          rintro e w6 ⟨v6, rfl, ho6, hb6⟩
          have HO6 := Lib.hid ho6
          have hs6 := hb6.size
          clear ho6 y00 y01 y02 y03
          go_wp2_with fail
          refine (ordered_own _ v6 (nonneg (casesL L k)) w6 (by rw [World.size_alloc]; omega) HO6.out (by omega)).mono ?_
          rintro e w7 ⟨v7, rfl, ho7, hb7⟩
          go_wp2
          go_ret
          have hsz : w.heap.size ≤ (w2.alloc (.cells #[.int .i64 x.op, .int .i64 x.a, .int .i64 x.b, .int .i64 x.c, .int .i64 x.at'] 34)).heap.size := by simp; omega
          exact ⟨_, rfl, by rw [← HR.out]; exact own_weak ho7 hsz, HYB.out.trans ((hb6.mono hsz).trans (hb7.mono hsz))⟩
    · have d1 : ((x.op : Int) == 50) = false := by simp [h50]
      have HR : Hid (insAll [] (nonneg (srcL p x)) = usesF p fn pc) := Lib.hid (by rw [HU.out]; exact insAll_congr ((reg_all HS hi).1 h50 h51 pc.toNat))
      clear hp H hi hsm HS hroles h51 hm hA hfx hxe hfe hfd h50 HU
      go_enter Tryd.func13, Tryd.ntmps13
      go_wp2_with fail
      refine (HI.out _ (below1 _ _)).mono ?_
      rintro e w2 ⟨rfl, hw2⟩
      have hb2 := Lib.hid (HN.out.keep hw2)
      obtain ⟨y00, y01, y02, y03, yb⟩ := hb2.out
      have hB2 := Lib.hid yb
      clear hw2 yb
      have n0 : w.heap.size ≠ w2.heap.size := by have := World.block_lt_of_cell? w2 _ y00; intro e; simp only at this; omega
      have m0 : w.heap.size < w2.heap.size := by have := World.block_lt_of_cell? w2 _ y00; simpa using this
      have hx2 := Lib.hid (BX1.new x w2)
      go_wp2_with fail
      refine (HC.out _ (hB2.out.alloc hB2.out.size _)).mono ?_
      rintro e w3 ⟨v3, rfl, ho3, hb3⟩
      have hB3 := Lib.hid ((hB2.out.alloc hB2.out.size (.cells #[.int .i64 x.op, .int .i64 x.a, .int .i64 x.b, .int .i64 x.c, .int .i64 x.at'] 34)).trans (hb3.mono (by simp; omega)))
      have HO3 := Lib.hid ho3
      have hs3 := hb3.size
      obtain ⟨z0, z1, z2, z3, z4, zb⟩ := hx2.out.keep hb3
      clear ho3 y00 y01 y02 y03 zb hb3
      go_wp2_with fail
      refine (existing_own _ v3 (srcL p x) w3 hs3 HO3.out (by omega)).mono ?_
      rintro e w4 ⟨v4, rfl, ho4, hb4⟩
      have HO4 := Lib.hid ho4
      have hs4 := hb4.size
      clear ho4 z0 z1 z2 z3 z4
      go_wp2_with fail
      refine (ordered_own _ v4 (nonneg (srcL p x)) w4 (Nat.le_trans hs3 hs4) HO4.out (by omega)).mono ?_
      rintro e w5 ⟨v5, rfl, ho5, hb5⟩
      go_wp2
      go_ret
      have hsz : w.heap.size ≤ (w2.alloc (.cells #[.int .i64 x.op, .int .i64 x.a, .int .i64 x.b, .int .i64 x.c, .int .i64 x.at'] 34)).heap.size := by simp; omega
      exact ⟨_, rfl, by rw [← HR.out]; exact own_weak ho5 hsz, hB3.out.trans ((hb4.mono hsz).trans (hb5.mono hsz))⟩
end Go.Proofs.YtekfhgldebhigaaDoor
