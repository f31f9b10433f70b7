/-
  The program's list of instructions.
  The program's function where something is missing ahead of its code.
  The program's function.
  The program's functions.
-/
import Derived.Test.YtlkaeonedijfpaaQH
import Derived.Deep.RegionHeld2
import Derived.Deep.CutRange
import Derived.Deep.DeepCutAuto
set_option linter.all false
namespace Go.Proofs.Ytlkaeonedijfpaa
open Go.RowKit C
def codeL (l : Bs) : Option (List In × Bs) := match countD l with | none => none | some (n, r) => codeD n 0 r
def PreC (n : Nat) (l : Bs) (k : Nat) (xs : List In) (lk : Bs) (atk : Int) : Prop :=
  xs.length = k ∧ k ≤ n ∧ codeD n 0 l = match codeD (n - k) atk lk with | none => none | some (ys, r) => some (xs ++ ys, r)
theorem PreC.start (n : Nat) (l : Bs) : PreC n l 0 [] l 0 := by
  refine ⟨rfl, Nat.zero_le _, ?_⟩
  rw [Nat.sub_zero]
  cases codeD n 0 l with
  | none => rfl
  | some q => obtain ⟨y, r⟩ := q; simp
theorem PreC.done {n : Nat} {l lk : Bs} {xs : List In} {atk : Int} (h : PreC n l n xs lk atk) : codeD n 0 l = some (xs, lk) := by
  rw [h.2.2, Nat.sub_self]; simp [codeD]
theorem PreC.stop {n k : Nat} {l lk : Bs} {xs : List In} {atk : Int} (h : PreC n l k xs lk atk) (hk : k < n) (hd : inD atk lk = none) : codeD n 0 l = none := by
  rw [h.2.2, show n - k = (n - k - 1) + 1 by omega]
  simp only [codeD]; rw [hd]
theorem PreC.next {n k : Nat} {l lk r : Bs} {xs : List In} {atk : Int} {x : In} (h : PreC n l k xs lk atk) (hk : k < n) (hd : inD atk lk = some (x, r)) : PreC n l (k + 1) (xs ++ [x]) r x.at' := by
  refine ⟨by rw [List.length_append, h.1]; rfl, hk, ?_⟩
  rw [h.2.2, show n - k = (n - (k + 1)) + 1 by omega]
  simp only [codeD]; rw [hd]
  simp only
  cases hq : codeD (n - (k + 1)) x.at' r with
  | none => rfl
  | some q => obtain ⟨y, r3⟩ := q; simp
theorem Mw.keep {w w' : World} {a b k : Nat} (h : Mw w w' a b) (hk : k < w.heap.size) (h1 : k ≠ a) (h2 : k ≠ b) : w'.heap[k]? = w.heap[k]? := h.block k hk h1 h2
theorem Mw.grown {w w1 w2 : World} {a b : Nat} {v v' : Value} (h : Mw w w1 a b) (hg : Gr w1 v w2 v') (hv : ∀ c, v.ownBlock = some c → w.heap.size ≤ c) : Mw w w2 a b :=
  ⟨hg.g.os.trans h.os, hg.g.tape.trans h.tape, hg.g.output.trans h.output, Nat.le_trans h.size hg.g.size, fun k hk e1 e2 => (hg.g.block k (Nat.lt_of_lt_of_le hk h.size) (fun e => by have := hv k e.symm; omega)).trans (h.block k hk e1 e2)⟩
theorem own_mw {w w' : World} {a b base n sz : Nat} {e : TypeId} {v : Value} {xs : List Value} (h : w.ownsRow base e sz v n xs) (hm : Mw w w' a b) (ha : a < base) (hb : b < base) : w'.ownsRow base e sz v n xs := by
  refine ⟨h.1, ?_⟩
  rcases h.2 with hn | ⟨g, cap, cur, rfl, hbg, hg, rest⟩
  · exact .inl hn
  · exact .inr ⟨g, cap, cur, rfl, hbg, (hm.keep (Array.getElem?_eq_some_iff.1 hg).1 (by omega) (by omega)).trans hg, rest⟩
theorem Fil.mw {α : Type} {t : TypeId} {sz lim : Nat} {cl : α → List Value} {B a b : Nat} {w w' : World} {v : Value} {m : Nat} {ys : List α} (h : Fil t sz lim cl B w v m ys) (hm : Mw w w' a b) (ha : a < B) (hb : b < B) : Fil t sz lim cl B w' v m ys := ⟨h.1, own_mw h.2 hm ha hb⟩
theorem Bo.alloc {w : World} {pb ab rb : Nat} {at0 : Int} (h : Bo w pb ab rb at0) (o : Obj) : Bo (w.alloc o) pb ab rb at0 := h.mv ((Mv.refl w rb).alloc o)
theorem Bo.gr {w w' : World} {pb ab rb : Nat} {at0 : Int} {v v' : Value} (h : Bo w pb ab rb at0) (hg : Gr w v w' v') (h1 : v.ownBlock ≠ some pb) (h2 : v.ownBlock ≠ some ab) : Bo w' pb ab rb at0 :=
  ⟨(hg.keep (Array.getElem?_eq_some_iff.1 h.p).1 h1).1.trans h.p, (hg.keep (Array.getElem?_eq_some_iff.1 h.a).1 h2).1.trans h.a, h.n1, h.n2, h.n3⟩
theorem code_i5s : ∀ (n : Nat) (at0 : Int) (l : Bs) (xs : List In) (r : Bs), codeD n at0 l = some (xs, r) → ∀ x ∈ xs, I5 x := fun n at0 l xs r h => (codeD_of n at0 l xs r h).2.2
def CGives (w0 w : World) (rb ab : Nat) (o : Option (List In × Bs)) (e : Ending) (w' : World) : Prop :=
  match o with
  | none => e = PE ∧ Mw w w' rb ab
  | some (xs, l') => ∃ v, e = .returned v ∧ Rd w0 w' rb l' ∧ Mw w w' rb ab ∧ El 5 InAt w.heap.size w' none (xs.take 1001) v
set_option maxRecDepth 100000 in
set_option maxHeartbeats 8000000 in
theorem olin_gives (w0 w : World) (rb pb ab : Nat) (l : Bs) (h : Rd w0 w rb l) (hbo : Bo w pb ab rb 0) (hab : w0.heap.size ≤ ab) :
    Calls Try.prog 75 #[.pointer (some ⟨rb, 0, none⟩), .int .i64 1000, .func (.func 76) #[] #[.pointer (some ⟨pb, 0, none⟩), .pointer (some ⟨ab, 0, none⟩)]] w (CGives w0 w rb ab (codeL l)) := by
  cases hc : countD l with
  | none =>
    have H1 := Lib.hid (ocount_none h hc)
    have HL : Hid (codeL l = none) := Lib.hid (by unfold codeL; rw [hc])
    clear h hc
    go_enter Try.func75, Try.ntmps75
    go_wp2_with fail
    refine H1.out.mono ?_
    rintro e w1 ⟨rfl, hm1⟩
    have HM : Hid (Mw w w1 rb ab) := Lib.hid (Mw.of hm1)
    clear hm1
    go_wp2
    exact ⟨rfl, by rw [HL.out]; exact ⟨rfl, HM.out⟩⟩
  | some q =>
    obtain ⟨n, r⟩ := q
    have HL : Hid (codeL l = codeD n 0 r) := Lib.hid (by unfold codeL; rw [hc])
    have H1 := Lib.hid (ocount_some h hc)
    have hrb := h.lt
    have hpl := (Array.getElem?_eq_some_iff.1 hbo.p).1
    have hal := (Array.getElem?_eq_some_iff.1 hbo.a).1
    have HBO := Lib.hid hbo
    have hw0 := h.bel.size
    obtain ⟨hrl, hnr⟩ := countD_len hc
    have hmx := h.max
    have hnm : n ≤ 9223372036854775807 := by omega
    clear h hc hbo
    go_enter Try.func75, Try.ntmps75
    go_wp2_with fail
    refine H1.out.mono ?_
    rintro e w1 ⟨rfl, hr1, hm1⟩
    have HR1 := Lib.hid hr1
    have HM1 : Hid (Mw w w1 rb ab) := Lib.hid (Mw.of hm1)
    have HB1 := Lib.hid (HBO.out.mv hm1)
    clear hr1 hm1 hrl hnr hmx
    go_wp2_with fail
    go_loopw [7, 11] (fun s7 s11 wr => ∃ (k : Nat) (ys : List In) (lk : Bs) (atk : Int) (A : Option Addr) (c m : Nat), s11 = .int .i64 (k : Int) ∧ s7 = .slice A m c ∧ PreC n r k ys lk atk ∧ Fil 57 5 1000 inC w.heap.size wr (.slice A m c) m ys ∧ Rd w0 wr rb lk ∧ Bo wr pb ab rb atk ∧ Mw w wr rb ab) (fun _ s11 _ => n - (intOf s11).toNat)
    case atStart => exact ⟨0, [], r, 0, none, 0, 0, rfl, rfl, PreC.start _ _, Fil.start _ _ _ _ _ _, HR1.out, HB1.out, HM1.out⟩
    case round =>
      obtain ⟨k, ys, lk, atk, A, c, m, rfl, rfl, hp, ho, hr, hb, hm⟩ := hrel
      have hk := hp.2.1
      have HP := Lib.hid hp
      have HR := Lib.hid hr
      have HB := Lib.hid hb
      have HM := Lib.hid hm
      have hms := hm.size
      have HML : Hid (m ≤ 1001) := Lib.hid (by have := ho.1; rw [List.length_take] at this; omega)
      clear hp hr hm hb
      by_cases hlt : k < n
      · cases hn : inD atk lk with
        | none =>
          have H2 := oin_gives w0 wr rb pb ab atk lk HR.out HB.out hab
          rw [hn] at H2
          have HH2 := Lib.hid H2
          have HS : Hid (codeD n 0 r = none) := Lib.hid (HP.out.stop hlt hn)
          clear hn ho H2
          go_wp2_with fail
          refine HH2.out.mono ?_
          rintro e w2 ⟨rfl, hm2⟩
          have HM2 := Lib.hid (HM.out.trans hm2)
          clear hm2
          go_wp2
          exact ⟨rfl, by rw [HL.out, HS.out]; exact ⟨rfl, HM2.out⟩⟩
        | some q =>
          obtain ⟨x, r2⟩ := q
          have H2 := oin_gives w0 wr rb pb ab atk lk HR.out HB.out hab
          rw [hn] at H2
          have HH2 := Lib.hid H2
          have HPN := Lib.hid (HP.out.next hlt hn)
          have HO := Lib.hid ho
          clear hn ho H2
          go_wp2_with fail
          refine HH2.out.mono ?_
          rintro e w2 ⟨rfl, hr2, hb2, hm2⟩
          have HR2 := Lib.hid hr2
          have HB2 := Lib.hid hb2
          have HM2 := Lib.hid (HM.out.trans hm2)
          have hms2 := hm2.size
          have HO2 : Hid (Fil 57 5 1000 inC w.heap.size w2 (.slice A m c) m ys) := Lib.hid (HO.out.mw hm2 hrb hal)
          clear hr2 hm2 hb2
          by_cases hll : m ≤ 1000
          · have hle : ((m : Int) ≤ 1000) := by omega
            obtain ⟨i0, hi, hz0, hz1, hz2⟩ := info_parts infoIn
            go_wp2_with (at_builtin; refine wpList_append_lies _ rfl _ _ _ rfl w.heap.size 57 i0 _ 5 40 Try.underlying53 hi hz0 hz1 hz2 rfl (by omega) (.slice A m c) m _ rfl (World.ownsRow.alloc (World.ownsRow.alloc HO2.out.2 _) _) ⟨w2.heap.size + 1, 0, none⟩ 1 1 [.int .i64 x.op, .int .i64 x.a, .int .i64 x.b, .int .i64 x.c, .int .i64 x.at'] rfl rfl (World.news_of_block (cs := #[.int .i64 x.op, .int .i64 x.a, .int .i64 x.b, .int .i64 x.c, .int .i64 x.at']) (t := 57) (fr := (0, 0)) (heapB w2 _ _)) (by simp [Value.oneCell']) (by omega) (by unfold maxLen; omega) (by omega) (by first | omega | (simp; omega)) (w2.heap.size + 1 + 1) (by first | rfl | simp) ?_; intro g1 cap1 w4 hown1 hgr1 hat1 hlt1)
            have hgx : Gr w2 (.slice A m c) w4 (.slice (some ⟨g1, 0, none⟩) (m + 1) cap1) := (((Gr.refl _ _).alloc _).alloc _).trans (Gr.of hgr1 (by simpa using hat1) rfl)
            have HOW := Lib.hid hown1
            have hrn : ∀ z, z < w.heap.size → (Value.slice A m c).ownBlock ≠ some z := fun z hz e => by have := (HO2.out.2.lt z e).1; omega
            have HRM : Hid (Rd w0 w4 rb r2 ∧ Bo w4 pb ab rb x.at' ∧ Mw w w4 rb ab) := Lib.hid ⟨HR2.out.gr hgx (hrn _ hrb) (fun b e => Nat.le_trans hw0 (HO2.out.2.lt b e).1), HB2.out.gr hgx (hrn _ hpl) (hrn _ hal), HM2.out.grown hgx (fun b e => (HO2.out.2.lt b e).1)⟩
            have HNX : Hid (Fil 57 5 1000 inC w.heap.size w4 (.slice (some ⟨g1, 0, none⟩) (m + 1) cap1) (m + 1) (ys ++ [x])) := Lib.hid (HO2.out.more hll HOW.out rfl)
            clear hown1 hgr1 hat1 hgx hrn hi
            go_wp2
            go_roundw
            case rel => exact ⟨k + 1, ys ++ [x], r2, x.at', some ⟨g1, 0, none⟩, cap1, m + 1, by go_num, rfl, HPN.out, HNX.out, HRM.out.1, HRM.out.2.1, HRM.out.2.2⟩
            case measure => simp [intOf]; omega
          · have hle : decide ((m : Int) ≤ 1000) = false := by simp; omega
            have HNX : Hid (Fil 57 5 1000 inC w.heap.size (w2.alloc (.cells #[.int .i64 x.op, .int .i64 x.a, .int .i64 x.b, .int .i64 x.c, .int .i64 x.at'] 57)) (.slice A m c) m (ys ++ [x])) := Lib.hid ((HO2.out.same hll).alloc _)
            go_wp2
            go_roundw
            case rel => exact ⟨k + 1, ys ++ [x], r2, x.at', A, c, m, by go_num, rfl, HPN.out, HNX.out, HR2.out.alloc _, HB2.out.alloc _, HM2.out.alloc _⟩
            case measure => simp [intOf]; omega
      · obtain rfl : k = n := by omega
        have HD := Lib.hid HP.out.done
        have HO := Lib.hid ho
        clear ho
        go_wp2
        go_ret
        rw [HL.out, HD.out]
        refine ⟨_, rfl, HR.out, HM.out, el_fil HO.out (fun _ => rfl) (fun x hx g o hg hr => ?_)⟩
        obtain ⟨j1, j2, j3, j4, j5⟩ := code_i5s _ _ _ _ _ HD.out x hx
        exact ⟨hg, by have := hr 0 (by omega); simpa using this, by have := hr 1 (by omega); simpa using this, by have := hr 2 (by omega); simpa using this, by have := hr 3 (by omega); simpa using this, by have := hr 4 (by omega); simpa using this, j1, j2, j3, j4, j5⟩
end Go.Proofs.Ytlkaeonedijfpaa

namespace Go.Proofs.Ytlkaeonedijfpaa
open Go.RowKit C
abbrev pbx (rb : Nat) : Obj := .cells #[.pointer (some ⟨rb, 0, none⟩)] 68
abbrev zFn : Obj := .cells #[.string ⟨#[]⟩, .int .i64 0, .int .i64 0, .slice none 0 0] 55
theorem infoFn4 : (Try.prog.info? 55).map (·.size) = some 4 := by kernel_rfl
/-- Behind the region: the box of the function. -/
structure Lg (w0 V0 W : World) (rb n : Nat) (r4 : Bs) (cs : Array Value) : Prop where
  rd : Rd w0 W rb r4
  mv : Mv V0 W rb
  blk : W.heap[n]? = some (.cells cs 55 (0, 0))
  ge : V0.heap.size ≤ n
  ne : n ≠ rb
theorem lg_alloc {w0 V0 w4 : World} {rb : Nat} {r4 : Bs} {cs : Array Value} (hr : Rd w0 w4 rb r4) (hm : Mv V0 w4 rb) : Lg w0 V0 (w4.alloc (.cells cs 55)) rb w4.heap.size r4 cs :=
  ⟨hr.alloc _, hm.alloc _, heap_alloc_new _ _, hm.size, by have := hr.lt; omega⟩
theorem lg_set {w0 V0 w4 V : World} {rb n : Nat} {r4 : Bs} {a0 a1 a2 a3 : Value} (hr : Rd w0 w4 rb r4) (hm : Mv V0 w4 rb) (hv : Mv (V.alloc zFn) w4 rb) (hn : n = V.heap.size) (hg : V0.heap.size ≤ n) (hne : n ≠ rb) (hw : w0.heap.size ≤ V0.heap.size) :
    Lg w0 V0 ((((w4.setCell ⟨n, 0, none⟩ a0).setCell ⟨n, 1, none⟩ a1).setCell ⟨n, 2, none⟩ a2).setCell ⟨n, 3, none⟩ a3) rb n r4 #[a0, a1, a2, a3] := by
  subst hn
  have hb : w4.heap[V.heap.size]? = some zFn := (hv.keep (by simp) hne).trans (heap_alloc_new V zFn)
  have hw2 : w0.heap.size ≤ V.heap.size := Nat.le_trans hw hg
  refine ⟨(((hr.other hne hw2).other hne hw2).other hne hw2).other hne hw2, (((hm.other hg).other hg).other hg).other hg, ?_, hg, hne⟩
  simp [World.setCell, Array.getElem?_modify, hb]
theorem bx4 {V W : World} {rb n : Nat} (hm : Mv (V.alloc zFn) W rb) (hn : n = V.heap.size) (hne : n ≠ rb) :
    (W.cell? ⟨n, 0, none⟩ = some (.string ⟨#[]⟩) ∧ W.cell? ⟨n, 1, none⟩ = some (.int .i64 0) ∧ W.cell? ⟨n, 2, none⟩ = some (.int .i64 0) ∧ W.cell? ⟨n, 3, none⟩ = some (.slice none 0 0)) ∧
    (W.frozen? ⟨n, 0, none⟩ = false ∧ W.frozen? ⟨n, 1, none⟩ = false ∧ W.frozen? ⟨n, 2, none⟩ = false ∧ W.frozen? ⟨n, 3, none⟩ = false) := by
  subst hn
  have hb : W.heap[V.heap.size]? = some zFn := (hm.keep (by simp) hne).trans (heap_alloc_new V zFn)
  simp [World.cell?, World.frozen?, hb]
theorem mv_mw {w V W : World} {a b : Nat} (h : Mv w V a) (h2 : Mw V W a b) (hb : w.heap.size ≤ b) : Mv w W a :=
  ⟨h2.os.trans h.os, h2.tape.trans h.tape, h2.output.trans h.output, Nat.le_trans h.size h2.size, fun k hk e => by
    have hka : k ≠ a := fun e2 => e (by rw [e2])
    exact (h2.keep (Nat.lt_of_lt_of_le hk h.size) hka (by omega)).trans (h.keep hk hka)⟩
theorem otext_noneF {w0 w : World} {rb : Nat} {l : Bs} (h : Rd w0 w rb l) (hd : textD l = none) :
    Calls Try.prog 73 #[.pointer (some ⟨rb, 0, none⟩)] w fun e w' => (e = PE ∧ Mv w w' rb) ∨ (e = .returned (.string ⟨#[]⟩) ∧ w' = w ∧ Hid False) := (otext_none h hd).mono fun e w' h => .inl h
def FGives (w0 w : World) (rb : Nat) (o : Option (Fc × Bs)) (e : Ending) (w' : World) : Prop :=
  match o with
  | none => e = PE ∧ Mv w w' rb
  | some (f, l') => ∃ v, e = .returned (.agg #[.string f.name, .int .i64 f.params, .int .i64 f.regs, v]) ∧ Rd w0 w' rb l' ∧ Mv w w' rb ∧ El 5 InAt w.heap.size w' none (f.code.take 1001) v
set_option maxRecDepth 100000 in
set_option maxHeartbeats 8000000 in
theorem ofn_none1 (w0 w : World) (rb : Nat) (l : Bs) (h : Rd w0 w rb l)  (h1 : textD l = none) :
    Calls Try.prog 65 #[.pointer (some ⟨rb, 0, none⟩)] w fun e w' => e = PE ∧ Mv w w' rb := by
  have hlt := h.lt
  have hw0 := h.bel.size
  have HRA : Hid (Rd w0 ((w.alloc (pbx rb)).alloc zFn).drew rb l) := Lib.hid (((h.alloc (pbx rb)).alloc zFn).drew)
  have HM0 : Hid (Mv w ((w.alloc (pbx rb)).alloc zFn).drew rb) := Lib.hid (Mv.drew' (((Mv.refl w rb).alloc (pbx rb)).alloc zFn))
  have HPB : Hid (((w.alloc (pbx rb)).alloc zFn).drew.heap[w.heap.size]? = some (pbx rb)) := Lib.hid (heap2a w (pbx rb) zFn)
  have HZL : Hid (w.heap.size < ((w.alloc (pbx rb)).alloc zFn).drew.heap.size) := Lib.hid (by simp; omega)
  have HZR : Hid (w.heap.size ≠ rb) := Lib.hid (by omega)
  have HK : Hid (∀ V, Mv ((w.alloc (pbx rb)).alloc zFn).drew V rb → V.cell? ⟨w.heap.size, 0, none⟩ = some (.pointer (some ⟨rb, 0, none⟩))) := Lib.hid fun V hV => by
    have := (hV.keep HZL.out HZR.out).trans HPB.out
    simp [World.cell?, this]
  have c0 := HK.out _ (Mv.refl _ _)
  have N1 := Lib.hid h1
  have KC : Hid (∀ V W, (V.cell? ⟨w.heap.size, 0, none⟩ = some (.pointer (some ⟨rb, 0, none⟩)) ∧ Mv ((w.alloc (pbx rb)).alloc zFn).drew V rb) → Mv V W rb → (W.cell? ⟨w.heap.size, 0, none⟩ = some (.pointer (some ⟨rb, 0, none⟩)) ∧ Mv ((w.alloc (pbx rb)).alloc zFn).drew W rb)) := Lib.hid fun V W h hm => ⟨HK.out _ (h.2.trans hm), h.2.trans hm⟩
  have KA : Hid (∀ V o, (V.cell? ⟨w.heap.size, 0, none⟩ = some (.pointer (some ⟨rb, 0, none⟩)) ∧ Mv ((w.alloc (pbx rb)).alloc zFn).drew V rb) → ((V.alloc o).cell? ⟨w.heap.size, 0, none⟩ = some (.pointer (some ⟨rb, 0, none⟩)) ∧ Mv ((w.alloc (pbx rb)).alloc zFn).drew (V.alloc o) rb)) := Lib.hid fun V o h => ⟨HK.out _ (h.2.alloc o), h.2.alloc o⟩
  have KS : Hid (∀ V b a0 a1 a2 a3, ((w.alloc (pbx rb)).alloc zFn).drew.heap.size ≤ b → (V.cell? ⟨w.heap.size, 0, none⟩ = some (.pointer (some ⟨rb, 0, none⟩)) ∧ Mv ((w.alloc (pbx rb)).alloc zFn).drew V rb) → (((((V.setCell ⟨b, 0, none⟩ a0).setCell ⟨b, 1, none⟩ a1).setCell ⟨b, 2, none⟩ a2).setCell ⟨b, 3, none⟩ a3).cell? ⟨w.heap.size, 0, none⟩ = some (.pointer (some ⟨rb, 0, none⟩)) ∧ Mv ((w.alloc (pbx rb)).alloc zFn).drew ((((V.setCell ⟨b, 0, none⟩ a0).setCell ⟨b, 1, none⟩ a1).setCell ⟨b, 2, none⟩ a2).setCell ⟨b, 3, none⟩ a3) rb)) := Lib.hid fun V b a0 a1 a2 a3 hb h => ⟨HK.out _ ((((h.2.other hb).other hb).other hb).other hb), (((h.2.other hb).other hb).other hb).other hb⟩
  have KZ : Hid (∀ V, Mv ((w.alloc (pbx rb)).alloc zFn).drew V rb → ((w.alloc (pbx rb)).alloc zFn).drew.heap.size ≤ V.heap.size) := Lib.hid fun V h => h.size
  have HSZ2 : Hid (w.heap.size + 1 + 1 = ((w.alloc (pbx rb)).alloc zFn).heap.size) := Lib.hid (by simp)
  have HNE : Hid (w.heap.size + 1 + 1 ≠ rb) := Lib.hid (by omega)
  have HSL : Hid (((w.alloc (pbx rb)).alloc zFn).drew.heap.size ≤ w.heap.size + 1 + 1) := Lib.hid (by simp)
  have hSt : (((w.alloc (pbx rb)).alloc zFn).drew.cell? ⟨w.heap.size, 0, none⟩ = some (.pointer (some ⟨rb, 0, none⟩)) ∧ Mv ((w.alloc (pbx rb)).alloc zFn).drew ((w.alloc (pbx rb)).alloc zFn).drew rb) := ⟨c0, Mv.refl _ _⟩
  have HW0 : Hid (w0.heap.size ≤ ((w.alloc (pbx rb)).alloc zFn).drew.heap.size) := Lib.hid (by simp; omega)
  have hSt2 : Hid ((((w.alloc (pbx rb)).alloc zFn).alloc zFn).drew.cell? ⟨w.heap.size, 0, none⟩ = some (.pointer (some ⟨rb, 0, none⟩)) ∧ Mv ((w.alloc (pbx rb)).alloc zFn).drew (((w.alloc (pbx rb)).alloc zFn).alloc zFn).drew rb) := Lib.hid (KA.out ((w.alloc (pbx rb)).alloc zFn).drew zFn hSt)
  have HRA2 : Hid (Rd w0 (((w.alloc (pbx rb)).alloc zFn).alloc zFn).drew rb l) := Lib.hid ((((h.alloc (pbx rb)).alloc zFn).alloc zFn).drew)
  have HPF : Hid (∀ V W, Mv V W rb → (V.cell? ⟨w.heap.size, 0, none⟩ = some (.pointer (some ⟨rb, 0, none⟩)) ∧ Mv ((w.alloc (pbx rb)).alloc zFn).drew V rb) → Mv w W rb) := Lib.hid fun V W h2 h1 => (HM0.out.trans h1.2).trans h2
  clear h h1
  go_enter Try.func65, Try.ntmps65
  go_wp2_with fail
  go_region_held2 (fun w' => w'.cell? ⟨w.heap.size, 0, none⟩ = some (.pointer (some ⟨rb, 0, none⟩)) ∧ Mv ((w.alloc (pbx rb)).alloc zFn).drew w' rb)
    (first
      | (with_reducible exact hfalse.out.elim)
      | (with_reducible exact hSt)
      | (with_reducible exact hSt2.out)
      | (with_reducible assumption)
      | (with_reducible exact KA.out _ _ ‹_›))
    (first
      | (go_at_call 66; (with_reducible refine (onum_fake hfalse.out).mono ?_); rintro e w9 ⟨rfl, rfl⟩)
      | (go_at_call 73; (with_reducible refine (otext_noneF (by first | with_reducible exact HRA.out | with_reducible exact HRA2.out) N1.out).mono ?_); rintro e w1 (⟨rfl, hm1⟩ | ⟨rfl, rfl, hfalse⟩); (exact ⟨rfl, rfl, HPF.out _ _ hm1 (by first | with_reducible assumption | with_reducible exact hSt | with_reducible exact hSt2.out)⟩)))
  all_goals exact hfalse.out.elim
set_option maxRecDepth 100000 in
set_option maxHeartbeats 8000000 in
theorem ofn_none2 (w0 w : World) (rb : Nat) (l r1 : Bs) (s : ByteArray) (h : Rd w0 w rb l) (h1 : textD l = some (s, r1)) (h2 : numD r1 = none) :
    Calls Try.prog 65 #[.pointer (some ⟨rb, 0, none⟩)] w fun e w' => e = PE ∧ Mv w w' rb := by
  have hlt := h.lt
  have hw0 := h.bel.size
  have HRA : Hid (Rd w0 ((w.alloc (pbx rb)).alloc zFn).drew rb l) := Lib.hid (((h.alloc (pbx rb)).alloc zFn).drew)
  have HM0 : Hid (Mv w ((w.alloc (pbx rb)).alloc zFn).drew rb) := Lib.hid (Mv.drew' (((Mv.refl w rb).alloc (pbx rb)).alloc zFn))
  have HPB : Hid (((w.alloc (pbx rb)).alloc zFn).drew.heap[w.heap.size]? = some (pbx rb)) := Lib.hid (heap2a w (pbx rb) zFn)
  have HZL : Hid (w.heap.size < ((w.alloc (pbx rb)).alloc zFn).drew.heap.size) := Lib.hid (by simp; omega)
  have HZR : Hid (w.heap.size ≠ rb) := Lib.hid (by omega)
  have HK : Hid (∀ V, Mv ((w.alloc (pbx rb)).alloc zFn).drew V rb → V.cell? ⟨w.heap.size, 0, none⟩ = some (.pointer (some ⟨rb, 0, none⟩))) := Lib.hid fun V hV => by
    have := (hV.keep HZL.out HZR.out).trans HPB.out
    simp [World.cell?, this]
  have c0 := HK.out _ (Mv.refl _ _)
  have N1 := Lib.hid h1
  have N2 := Lib.hid h2
  have KC : Hid (∀ V W, (V.cell? ⟨w.heap.size, 0, none⟩ = some (.pointer (some ⟨rb, 0, none⟩)) ∧ Mv ((w.alloc (pbx rb)).alloc zFn).drew V rb) → Mv V W rb → (W.cell? ⟨w.heap.size, 0, none⟩ = some (.pointer (some ⟨rb, 0, none⟩)) ∧ Mv ((w.alloc (pbx rb)).alloc zFn).drew W rb)) := Lib.hid fun V W h hm => ⟨HK.out _ (h.2.trans hm), h.2.trans hm⟩
  have KA : Hid (∀ V o, (V.cell? ⟨w.heap.size, 0, none⟩ = some (.pointer (some ⟨rb, 0, none⟩)) ∧ Mv ((w.alloc (pbx rb)).alloc zFn).drew V rb) → ((V.alloc o).cell? ⟨w.heap.size, 0, none⟩ = some (.pointer (some ⟨rb, 0, none⟩)) ∧ Mv ((w.alloc (pbx rb)).alloc zFn).drew (V.alloc o) rb)) := Lib.hid fun V o h => ⟨HK.out _ (h.2.alloc o), h.2.alloc o⟩
  have KS : Hid (∀ V b a0 a1 a2 a3, ((w.alloc (pbx rb)).alloc zFn).drew.heap.size ≤ b → (V.cell? ⟨w.heap.size, 0, none⟩ = some (.pointer (some ⟨rb, 0, none⟩)) ∧ Mv ((w.alloc (pbx rb)).alloc zFn).drew V rb) → (((((V.setCell ⟨b, 0, none⟩ a0).setCell ⟨b, 1, none⟩ a1).setCell ⟨b, 2, none⟩ a2).setCell ⟨b, 3, none⟩ a3).cell? ⟨w.heap.size, 0, none⟩ = some (.pointer (some ⟨rb, 0, none⟩)) ∧ Mv ((w.alloc (pbx rb)).alloc zFn).drew ((((V.setCell ⟨b, 0, none⟩ a0).setCell ⟨b, 1, none⟩ a1).setCell ⟨b, 2, none⟩ a2).setCell ⟨b, 3, none⟩ a3) rb)) := Lib.hid fun V b a0 a1 a2 a3 hb h => ⟨HK.out _ ((((h.2.other hb).other hb).other hb).other hb), (((h.2.other hb).other hb).other hb).other hb⟩
  have KZ : Hid (∀ V, Mv ((w.alloc (pbx rb)).alloc zFn).drew V rb → ((w.alloc (pbx rb)).alloc zFn).drew.heap.size ≤ V.heap.size) := Lib.hid fun V h => h.size
  have HSZ2 : Hid (w.heap.size + 1 + 1 = ((w.alloc (pbx rb)).alloc zFn).heap.size) := Lib.hid (by simp)
  have HNE : Hid (w.heap.size + 1 + 1 ≠ rb) := Lib.hid (by omega)
  have HSL : Hid (((w.alloc (pbx rb)).alloc zFn).drew.heap.size ≤ w.heap.size + 1 + 1) := Lib.hid (by simp)
  have hSt : (((w.alloc (pbx rb)).alloc zFn).drew.cell? ⟨w.heap.size, 0, none⟩ = some (.pointer (some ⟨rb, 0, none⟩)) ∧ Mv ((w.alloc (pbx rb)).alloc zFn).drew ((w.alloc (pbx rb)).alloc zFn).drew rb) := ⟨c0, Mv.refl _ _⟩
  have HW0 : Hid (w0.heap.size ≤ ((w.alloc (pbx rb)).alloc zFn).drew.heap.size) := Lib.hid (by simp; omega)
  have hSt2 : Hid ((((w.alloc (pbx rb)).alloc zFn).alloc zFn).drew.cell? ⟨w.heap.size, 0, none⟩ = some (.pointer (some ⟨rb, 0, none⟩)) ∧ Mv ((w.alloc (pbx rb)).alloc zFn).drew (((w.alloc (pbx rb)).alloc zFn).alloc zFn).drew rb) := Lib.hid (KA.out ((w.alloc (pbx rb)).alloc zFn).drew zFn hSt)
  have HRA2 : Hid (Rd w0 (((w.alloc (pbx rb)).alloc zFn).alloc zFn).drew rb l) := Lib.hid ((((h.alloc (pbx rb)).alloc zFn).alloc zFn).drew)
  have HPF : Hid (∀ V W, Mv V W rb → (V.cell? ⟨w.heap.size, 0, none⟩ = some (.pointer (some ⟨rb, 0, none⟩)) ∧ Mv ((w.alloc (pbx rb)).alloc zFn).drew V rb) → Mv w W rb) := Lib.hid fun V W h2 h1 => (HM0.out.trans h1.2).trans h2
  clear h h1 h2
  go_enter Try.func65, Try.ntmps65
  go_wp2_with fail
  go_region_held2 (fun w' => w'.cell? ⟨w.heap.size, 0, none⟩ = some (.pointer (some ⟨rb, 0, none⟩)) ∧ Mv ((w.alloc (pbx rb)).alloc zFn).drew w' rb)
    (first
      | (with_reducible exact hfalse.out.elim)
      | (with_reducible exact hSt)
      | (with_reducible exact hSt2.out)
      | (with_reducible assumption)
      | (with_reducible exact KC.out _ _ ‹_› hm1)
      | (with_reducible exact KA.out _ _ ‹_›))
    (first
      | (go_at_call 66; (with_reducible refine (onum_fake hfalse.out).mono ?_); rintro e w9 ⟨rfl, rfl⟩)
      | (go_at_call 66; (with_reducible refine (onum_noneF (by first | with_reducible exact hr1 | with_reducible exact hr1.alloc _) N2.out).mono ?_); rintro e w2 (⟨rfl, hm2⟩ | ⟨rfl, rfl, hfalse⟩); (exact ⟨rfl, rfl, HPF.out _ _ hm2 (by first | with_reducible assumption | with_reducible exact hSt | with_reducible exact hSt2.out)⟩))
      | (go_at_call 73; (with_reducible refine (otext_some (by first | with_reducible exact HRA.out | with_reducible exact HRA2.out) N1.out).mono ?_); rintro e w1 ⟨rfl, hr1, hm1⟩; first | (with_reducible (have y0 := (bx4 (n := w.heap.size + 1 + 1) hm1.drew HSZ2.out HNE.out).1.1; have y1 := (bx4 (n := w.heap.size + 1 + 1) hm1.drew HSZ2.out HNE.out).1.2.1; have y2 := (bx4 (n := w.heap.size + 1 + 1) hm1.drew HSZ2.out HNE.out).1.2.2.1; have y3 := (bx4 (n := w.heap.size + 1 + 1) hm1.drew HSZ2.out HNE.out).1.2.2.2; have y4 := (bx4 (n := w.heap.size + 1 + 1) hm1.drew HSZ2.out HNE.out).2.1; have y5 := (bx4 (n := w.heap.size + 1 + 1) hm1.drew HSZ2.out HNE.out).2.2.1; have y6 := (bx4 (n := w.heap.size + 1 + 1) hm1.drew HSZ2.out HNE.out).2.2.2.1; have y7 := (bx4 (n := w.heap.size + 1 + 1) hm1.drew HSZ2.out HNE.out).2.2.2.2)) | skip))
  all_goals exact hfalse.out.elim
set_option maxRecDepth 100000 in
set_option maxHeartbeats 8000000 in
theorem ofn_none3 (w0 w : World) (rb : Nat) (l r1 r2 : Bs) (s : ByteArray) (a : Int) (h : Rd w0 w rb l) (h1 : textD l = some (s, r1)) (h2 : numD r1 = some (a, r2)) (h3 : numD r2 = none) :
    Calls Try.prog 65 #[.pointer (some ⟨rb, 0, none⟩)] w fun e w' => e = PE ∧ Mv w w' rb := by
  have hlt := h.lt
  have hw0 := h.bel.size
  have HRA : Hid (Rd w0 ((w.alloc (pbx rb)).alloc zFn).drew rb l) := Lib.hid (((h.alloc (pbx rb)).alloc zFn).drew)
  have HM0 : Hid (Mv w ((w.alloc (pbx rb)).alloc zFn).drew rb) := Lib.hid (Mv.drew' (((Mv.refl w rb).alloc (pbx rb)).alloc zFn))
  have HPB : Hid (((w.alloc (pbx rb)).alloc zFn).drew.heap[w.heap.size]? = some (pbx rb)) := Lib.hid (heap2a w (pbx rb) zFn)
  have HZL : Hid (w.heap.size < ((w.alloc (pbx rb)).alloc zFn).drew.heap.size) := Lib.hid (by simp; omega)
  have HZR : Hid (w.heap.size ≠ rb) := Lib.hid (by omega)
  have HK : Hid (∀ V, Mv ((w.alloc (pbx rb)).alloc zFn).drew V rb → V.cell? ⟨w.heap.size, 0, none⟩ = some (.pointer (some ⟨rb, 0, none⟩))) := Lib.hid fun V hV => by
    have := (hV.keep HZL.out HZR.out).trans HPB.out
    simp [World.cell?, this]
  have c0 := HK.out _ (Mv.refl _ _)
  have N1 := Lib.hid h1
  have N2 := Lib.hid h2
  have N3 := Lib.hid h3
  have KC : Hid (∀ V W, (V.cell? ⟨w.heap.size, 0, none⟩ = some (.pointer (some ⟨rb, 0, none⟩)) ∧ Mv ((w.alloc (pbx rb)).alloc zFn).drew V rb) → Mv V W rb → (W.cell? ⟨w.heap.size, 0, none⟩ = some (.pointer (some ⟨rb, 0, none⟩)) ∧ Mv ((w.alloc (pbx rb)).alloc zFn).drew W rb)) := Lib.hid fun V W h hm => ⟨HK.out _ (h.2.trans hm), h.2.trans hm⟩
  have KA : Hid (∀ V o, (V.cell? ⟨w.heap.size, 0, none⟩ = some (.pointer (some ⟨rb, 0, none⟩)) ∧ Mv ((w.alloc (pbx rb)).alloc zFn).drew V rb) → ((V.alloc o).cell? ⟨w.heap.size, 0, none⟩ = some (.pointer (some ⟨rb, 0, none⟩)) ∧ Mv ((w.alloc (pbx rb)).alloc zFn).drew (V.alloc o) rb)) := Lib.hid fun V o h => ⟨HK.out _ (h.2.alloc o), h.2.alloc o⟩
  have KS : Hid (∀ V b a0 a1 a2 a3, ((w.alloc (pbx rb)).alloc zFn).drew.heap.size ≤ b → (V.cell? ⟨w.heap.size, 0, none⟩ = some (.pointer (some ⟨rb, 0, none⟩)) ∧ Mv ((w.alloc (pbx rb)).alloc zFn).drew V rb) → (((((V.setCell ⟨b, 0, none⟩ a0).setCell ⟨b, 1, none⟩ a1).setCell ⟨b, 2, none⟩ a2).setCell ⟨b, 3, none⟩ a3).cell? ⟨w.heap.size, 0, none⟩ = some (.pointer (some ⟨rb, 0, none⟩)) ∧ Mv ((w.alloc (pbx rb)).alloc zFn).drew ((((V.setCell ⟨b, 0, none⟩ a0).setCell ⟨b, 1, none⟩ a1).setCell ⟨b, 2, none⟩ a2).setCell ⟨b, 3, none⟩ a3) rb)) := Lib.hid fun V b a0 a1 a2 a3 hb h => ⟨HK.out _ ((((h.2.other hb).other hb).other hb).other hb), (((h.2.other hb).other hb).other hb).other hb⟩
  have KZ : Hid (∀ V, Mv ((w.alloc (pbx rb)).alloc zFn).drew V rb → ((w.alloc (pbx rb)).alloc zFn).drew.heap.size ≤ V.heap.size) := Lib.hid fun V h => h.size
  have HSZ2 : Hid (w.heap.size + 1 + 1 = ((w.alloc (pbx rb)).alloc zFn).heap.size) := Lib.hid (by simp)
  have HNE : Hid (w.heap.size + 1 + 1 ≠ rb) := Lib.hid (by omega)
  have HSL : Hid (((w.alloc (pbx rb)).alloc zFn).drew.heap.size ≤ w.heap.size + 1 + 1) := Lib.hid (by simp)
  have hSt : (((w.alloc (pbx rb)).alloc zFn).drew.cell? ⟨w.heap.size, 0, none⟩ = some (.pointer (some ⟨rb, 0, none⟩)) ∧ Mv ((w.alloc (pbx rb)).alloc zFn).drew ((w.alloc (pbx rb)).alloc zFn).drew rb) := ⟨c0, Mv.refl _ _⟩
  have HW0 : Hid (w0.heap.size ≤ ((w.alloc (pbx rb)).alloc zFn).drew.heap.size) := Lib.hid (by simp; omega)
  have hSt2 : Hid ((((w.alloc (pbx rb)).alloc zFn).alloc zFn).drew.cell? ⟨w.heap.size, 0, none⟩ = some (.pointer (some ⟨rb, 0, none⟩)) ∧ Mv ((w.alloc (pbx rb)).alloc zFn).drew (((w.alloc (pbx rb)).alloc zFn).alloc zFn).drew rb) := Lib.hid (KA.out ((w.alloc (pbx rb)).alloc zFn).drew zFn hSt)
  have HRA2 : Hid (Rd w0 (((w.alloc (pbx rb)).alloc zFn).alloc zFn).drew rb l) := Lib.hid ((((h.alloc (pbx rb)).alloc zFn).alloc zFn).drew)
  have HPF : Hid (∀ V W, Mv V W rb → (V.cell? ⟨w.heap.size, 0, none⟩ = some (.pointer (some ⟨rb, 0, none⟩)) ∧ Mv ((w.alloc (pbx rb)).alloc zFn).drew V rb) → Mv w W rb) := Lib.hid fun V W h2 h1 => (HM0.out.trans h1.2).trans h2
  clear h h1 h2 h3
  go_enter Try.func65, Try.ntmps65
  go_wp2_with fail
  go_region_held2 (fun w' => w'.cell? ⟨w.heap.size, 0, none⟩ = some (.pointer (some ⟨rb, 0, none⟩)) ∧ Mv ((w.alloc (pbx rb)).alloc zFn).drew w' rb)
    (first
      | (with_reducible exact hfalse.out.elim)
      | (with_reducible exact hSt)
      | (with_reducible exact hSt2.out)
      | (with_reducible assumption)
      | (with_reducible exact KC.out _ _ ‹_› hm2)
      | (with_reducible exact KC.out _ _ ‹_› hm1)
      | (with_reducible exact KA.out _ _ ‹_›))
    (first
      | (go_at_call 66; (with_reducible refine (onum_fake hfalse.out).mono ?_); rintro e w9 ⟨rfl, rfl⟩)
      | (go_at_call 66; (with_reducible refine (onum_noneF (by first | with_reducible exact hr2 | with_reducible exact hr2.alloc _) N3.out).mono ?_); rintro e w3 (⟨rfl, hm3⟩ | ⟨rfl, rfl, hfalse⟩); (exact ⟨rfl, rfl, HPF.out _ _ hm3 (by first | with_reducible assumption | with_reducible exact hSt | with_reducible exact hSt2.out)⟩))
      | (go_at_call 66; (with_reducible refine (onum_some (by first | with_reducible exact hr1 | with_reducible exact hr1.alloc _) N2.out).mono ?_); rintro e w2 ⟨rfl, hr2, hm2⟩; first | (with_reducible (have y0 := (bx4 (n := w1.heap.size) hm2 rfl (ne_sz hr1)).1.1; have y1 := (bx4 (n := w1.heap.size) hm2 rfl (ne_sz hr1)).1.2.1; have y2 := (bx4 (n := w1.heap.size) hm2 rfl (ne_sz hr1)).1.2.2.1; have y3 := (bx4 (n := w1.heap.size) hm2 rfl (ne_sz hr1)).1.2.2.2; have y4 := (bx4 (n := w1.heap.size) hm2 rfl (ne_sz hr1)).2.1; have y5 := (bx4 (n := w1.heap.size) hm2 rfl (ne_sz hr1)).2.2.1; have y6 := (bx4 (n := w1.heap.size) hm2 rfl (ne_sz hr1)).2.2.2.1; have y7 := (bx4 (n := w1.heap.size) hm2 rfl (ne_sz hr1)).2.2.2.2)) | (with_reducible (have y0 := (bx4 (n := w.heap.size + 1 + 1) (hm1.drew.trans hm2) HSZ2.out HNE.out).1.1; have y1 := (bx4 (n := w.heap.size + 1 + 1) (hm1.drew.trans hm2) HSZ2.out HNE.out).1.2.1; have y2 := (bx4 (n := w.heap.size + 1 + 1) (hm1.drew.trans hm2) HSZ2.out HNE.out).1.2.2.1; have y3 := (bx4 (n := w.heap.size + 1 + 1) (hm1.drew.trans hm2) HSZ2.out HNE.out).1.2.2.2; have y4 := (bx4 (n := w.heap.size + 1 + 1) (hm1.drew.trans hm2) HSZ2.out HNE.out).2.1; have y5 := (bx4 (n := w.heap.size + 1 + 1) (hm1.drew.trans hm2) HSZ2.out HNE.out).2.2.1; have y6 := (bx4 (n := w.heap.size + 1 + 1) (hm1.drew.trans hm2) HSZ2.out HNE.out).2.2.2.1; have y7 := (bx4 (n := w.heap.size + 1 + 1) (hm1.drew.trans hm2) HSZ2.out HNE.out).2.2.2.2)) | skip)
      | (go_at_call 73; (with_reducible refine (otext_some (by first | with_reducible exact HRA.out | with_reducible exact HRA2.out) N1.out).mono ?_); rintro e w1 ⟨rfl, hr1, hm1⟩))
  all_goals exact hfalse.out.elim
end Go.Proofs.Ytlkaeonedijfpaa

namespace Go.Proofs.Ytlkaeonedijfpaa
open Go.RowKit C
set_option maxRecDepth 100000 in
set_option maxHeartbeats 8000000 in
theorem ofn_none4 (w0 w : World) (rb : Nat) (l r1 r2 r3 : Bs) (s : ByteArray) (a : Int) (b : Int) (h : Rd w0 w rb l) (h1 : textD l = some (s, r1)) (h2 : numD r1 = some (a, r2)) (h3 : numD r2 = some (b, r3)) (hq : codeL r3 = none) :
    Calls Try.prog 65 #[.pointer (some ⟨rb, 0, none⟩)] w (fun e w' => e = PE ∧ Mv w w' rb) := by
  have hmf : ∀ (fn : Fn) (first cap : Array Value) (w : World), (Instr.makeFunc fn first cap).run Try.prog w = .ok (.func fn first cap) w := fun _ _ _ _ => rfl
  have hlt := h.lt
  have hw0 := h.bel.size
  have HRA : Hid (Rd w0 ((w.alloc (pbx rb)).alloc zFn).drew rb l) := Lib.hid (((h.alloc (pbx rb)).alloc zFn).drew)
  have HM0 : Hid (Mv w ((w.alloc (pbx rb)).alloc zFn).drew rb) := Lib.hid (Mv.drew' (((Mv.refl w rb).alloc (pbx rb)).alloc zFn))
  have HPB : Hid (((w.alloc (pbx rb)).alloc zFn).drew.heap[w.heap.size]? = some (pbx rb)) := Lib.hid (heap2a w (pbx rb) zFn)
  have HZL : Hid (w.heap.size < ((w.alloc (pbx rb)).alloc zFn).drew.heap.size) := Lib.hid (by simp; omega)
  have HZR : Hid (w.heap.size ≠ rb) := Lib.hid (by omega)
  have HK : Hid (∀ V, Mv ((w.alloc (pbx rb)).alloc zFn).drew V rb → V.cell? ⟨w.heap.size, 0, none⟩ = some (.pointer (some ⟨rb, 0, none⟩))) := Lib.hid fun V hV => by
    have := (hV.keep HZL.out HZR.out).trans HPB.out
    simp [World.cell?, this]
  have c0 := HK.out _ (Mv.refl _ _)
  have N1 := Lib.hid h1
  have N2 := Lib.hid h2
  have N3 := Lib.hid h3
  have KC : Hid (∀ V W, (V.cell? ⟨w.heap.size, 0, none⟩ = some (.pointer (some ⟨rb, 0, none⟩)) ∧ Mv ((w.alloc (pbx rb)).alloc zFn).drew V rb) → Mv V W rb → (W.cell? ⟨w.heap.size, 0, none⟩ = some (.pointer (some ⟨rb, 0, none⟩)) ∧ Mv ((w.alloc (pbx rb)).alloc zFn).drew W rb)) := Lib.hid fun V W h hm => ⟨HK.out _ (h.2.trans hm), h.2.trans hm⟩
  have KA : Hid (∀ V o, (V.cell? ⟨w.heap.size, 0, none⟩ = some (.pointer (some ⟨rb, 0, none⟩)) ∧ Mv ((w.alloc (pbx rb)).alloc zFn).drew V rb) → ((V.alloc o).cell? ⟨w.heap.size, 0, none⟩ = some (.pointer (some ⟨rb, 0, none⟩)) ∧ Mv ((w.alloc (pbx rb)).alloc zFn).drew (V.alloc o) rb)) := Lib.hid fun V o h => ⟨HK.out _ (h.2.alloc o), h.2.alloc o⟩
  have KS : Hid (∀ V b a0 a1 a2 a3, ((w.alloc (pbx rb)).alloc zFn).drew.heap.size ≤ b → (V.cell? ⟨w.heap.size, 0, none⟩ = some (.pointer (some ⟨rb, 0, none⟩)) ∧ Mv ((w.alloc (pbx rb)).alloc zFn).drew V rb) → (((((V.setCell ⟨b, 0, none⟩ a0).setCell ⟨b, 1, none⟩ a1).setCell ⟨b, 2, none⟩ a2).setCell ⟨b, 3, none⟩ a3).cell? ⟨w.heap.size, 0, none⟩ = some (.pointer (some ⟨rb, 0, none⟩)) ∧ Mv ((w.alloc (pbx rb)).alloc zFn).drew ((((V.setCell ⟨b, 0, none⟩ a0).setCell ⟨b, 1, none⟩ a1).setCell ⟨b, 2, none⟩ a2).setCell ⟨b, 3, none⟩ a3) rb)) := Lib.hid fun V b a0 a1 a2 a3 hb h => ⟨HK.out _ ((((h.2.other hb).other hb).other hb).other hb), (((h.2.other hb).other hb).other hb).other hb⟩
  have KZ : Hid (∀ V, Mv ((w.alloc (pbx rb)).alloc zFn).drew V rb → ((w.alloc (pbx rb)).alloc zFn).drew.heap.size ≤ V.heap.size) := Lib.hid fun V h => h.size
  have HSZ2 : Hid (w.heap.size + 1 + 1 = ((w.alloc (pbx rb)).alloc zFn).heap.size) := Lib.hid (by simp)
  have HNE : Hid (w.heap.size + 1 + 1 ≠ rb) := Lib.hid (by omega)
  have HSL : Hid (((w.alloc (pbx rb)).alloc zFn).drew.heap.size ≤ w.heap.size + 1 + 1) := Lib.hid (by simp)
  have hSt : (((w.alloc (pbx rb)).alloc zFn).drew.cell? ⟨w.heap.size, 0, none⟩ = some (.pointer (some ⟨rb, 0, none⟩)) ∧ Mv ((w.alloc (pbx rb)).alloc zFn).drew ((w.alloc (pbx rb)).alloc zFn).drew rb) := ⟨c0, Mv.refl _ _⟩
  have HW0 : Hid (w0.heap.size ≤ ((w.alloc (pbx rb)).alloc zFn).drew.heap.size) := Lib.hid (by simp; omega)
  have hSt2 : Hid ((((w.alloc (pbx rb)).alloc zFn).alloc zFn).drew.cell? ⟨w.heap.size, 0, none⟩ = some (.pointer (some ⟨rb, 0, none⟩)) ∧ Mv ((w.alloc (pbx rb)).alloc zFn).drew (((w.alloc (pbx rb)).alloc zFn).alloc zFn).drew rb) := Lib.hid (KA.out ((w.alloc (pbx rb)).alloc zFn).drew zFn hSt)
  have HRA2 : Hid (Rd w0 (((w.alloc (pbx rb)).alloc zFn).alloc zFn).drew rb l) := Lib.hid ((((h.alloc (pbx rb)).alloc zFn).alloc zFn).drew)
  have HPF : Hid (∀ V W, Mv V W rb → (V.cell? ⟨w.heap.size, 0, none⟩ = some (.pointer (some ⟨rb, 0, none⟩)) ∧ Mv ((w.alloc (pbx rb)).alloc zFn).drew V rb) → Mv w W rb) := Lib.hid fun V W h2 h1 => (HM0.out.trans h1.2).trans h2
  clear h h1 h2 h3
  go_enter Try.func65, Try.ntmps65
  go_upto_region 1 with fail
  go_cut [3] (fun s3 w' => ∃ n, s3 = .pointer (some ⟨n, 0, none⟩) ∧ Lg w0 ((w.alloc (pbx rb)).alloc zFn).drew w' rb n r3 #[.string s, .int .i64 a, .int .i64 b, .slice none 0 0])
  case first =>
   go_region_held3 (fun w' => w'.cell? ⟨w.heap.size, 0, none⟩ = some (.pointer (some ⟨rb, 0, none⟩)) ∧ Mv ((w.alloc (pbx rb)).alloc zFn).drew w' rb)
     (first
       | (with_reducible exact hSt)
       | (with_reducible exact hSt2.out)
       | (with_reducible assumption)
       | (with_reducible exact KS.out _ _ _ _ _ _ (KZ.out _ (hm1.trans hm2)) ‹_›)
       | (with_reducible exact KS.out _ _ _ _ _ _ (KZ.out _ hm1) ‹_›)
       | (with_reducible exact KS.out _ _ _ _ _ _ HSL.out ‹_›)
       | (with_reducible exact KC.out _ _ ‹_› hm3)
       | (with_reducible exact KC.out _ _ ‹_› hm2)
       | (with_reducible exact KC.out _ _ ‹_› hm1)
       | (with_reducible exact KA.out _ _ ‹_›)
       | (with_reducible exact KA.out _ _ (KC.out _ _ (KC.out _ _ (KC.out _ _ hSt hm1) hm2) hm3)))
     (first
       | (go_at_call 66; (with_reducible refine (onum_some (by first | with_reducible exact hr2 | with_reducible exact hr2.alloc _) N3.out).mono ?_); rintro e w3 ⟨rfl, hr3, hm3⟩; first | (with_reducible (have y0 := (bx4 (n := w2.heap.size) hm3 rfl (ne_sz hr2)).1.1; have y1 := (bx4 (n := w2.heap.size) hm3 rfl (ne_sz hr2)).1.2.1; have y2 := (bx4 (n := w2.heap.size) hm3 rfl (ne_sz hr2)).1.2.2.1; have y3 := (bx4 (n := w2.heap.size) hm3 rfl (ne_sz hr2)).1.2.2.2; have y4 := (bx4 (n := w2.heap.size) hm3 rfl (ne_sz hr2)).2.1; have y5 := (bx4 (n := w2.heap.size) hm3 rfl (ne_sz hr2)).2.2.1; have y6 := (bx4 (n := w2.heap.size) hm3 rfl (ne_sz hr2)).2.2.2.1; have y7 := (bx4 (n := w2.heap.size) hm3 rfl (ne_sz hr2)).2.2.2.2)) | (with_reducible (have y0 := (bx4 (n := w1.heap.size) (hm2.trans hm3) rfl (ne_sz hr1)).1.1; have y1 := (bx4 (n := w1.heap.size) (hm2.trans hm3) rfl (ne_sz hr1)).1.2.1; have y2 := (bx4 (n := w1.heap.size) (hm2.trans hm3) rfl (ne_sz hr1)).1.2.2.1; have y3 := (bx4 (n := w1.heap.size) (hm2.trans hm3) rfl (ne_sz hr1)).1.2.2.2; have y4 := (bx4 (n := w1.heap.size) (hm2.trans hm3) rfl (ne_sz hr1)).2.1; have y5 := (bx4 (n := w1.heap.size) (hm2.trans hm3) rfl (ne_sz hr1)).2.2.1; have y6 := (bx4 (n := w1.heap.size) (hm2.trans hm3) rfl (ne_sz hr1)).2.2.2.1; have y7 := (bx4 (n := w1.heap.size) (hm2.trans hm3) rfl (ne_sz hr1)).2.2.2.2)) | (with_reducible (have y0 := (bx4 (n := w.heap.size + 1 + 1) ((hm1.drew.trans hm2).trans hm3) HSZ2.out HNE.out).1.1; have y1 := (bx4 (n := w.heap.size + 1 + 1) ((hm1.drew.trans hm2).trans hm3) HSZ2.out HNE.out).1.2.1; have y2 := (bx4 (n := w.heap.size + 1 + 1) ((hm1.drew.trans hm2).trans hm3) HSZ2.out HNE.out).1.2.2.1; have y3 := (bx4 (n := w.heap.size + 1 + 1) ((hm1.drew.trans hm2).trans hm3) HSZ2.out HNE.out).1.2.2.2; have y4 := (bx4 (n := w.heap.size + 1 + 1) ((hm1.drew.trans hm2).trans hm3) HSZ2.out HNE.out).2.1; have y5 := (bx4 (n := w.heap.size + 1 + 1) ((hm1.drew.trans hm2).trans hm3) HSZ2.out HNE.out).2.2.1; have y6 := (bx4 (n := w.heap.size + 1 + 1) ((hm1.drew.trans hm2).trans hm3) HSZ2.out HNE.out).2.2.2.1; have y7 := (bx4 (n := w.heap.size + 1 + 1) ((hm1.drew.trans hm2).trans hm3) HSZ2.out HNE.out).2.2.2.2)) | skip)
       | (go_at_call 66; (with_reducible refine (onum_some (by first | with_reducible exact hr1 | with_reducible exact hr1.alloc _) N2.out).mono ?_); rintro e w2 ⟨rfl, hr2, hm2⟩)
       | (go_at_call 73; (with_reducible refine (otext_some (by first | with_reducible exact HRA.out | with_reducible exact HRA2.out) N1.out).mono ?_); rintro e w1 ⟨rfl, hr1, hm1⟩))
   all_goals
     go_wp2_with fail
     go_meet
     case rel =>
       first
         | (with_reducible refine ⟨w3.heap.size, rfl, ?_⟩; exact lg_alloc hr3 ((hm1.trans hm2).trans hm3))
         | (with_reducible refine ⟨w2.heap.size, rfl, ?_⟩; exact lg_set (V := w2) hr3 (((hm1.trans hm2).alloc zFn).trans hm3) hm3 rfl (KZ.out _ (hm1.trans hm2)) (ne_sz hr2) HW0.out)
         | (with_reducible refine ⟨w1.heap.size, rfl, ?_⟩; exact lg_set (V := w1) hr3 (((hm1.alloc zFn).trans hm2).trans hm3) (hm2.trans hm3) rfl (KZ.out _ hm1) (ne_sz hr1) HW0.out)
         | (with_reducible refine ⟨w.heap.size + 1 + 1, rfl, ?_⟩; exact lg_set (V := ((w.alloc (pbx rb)).alloc zFn)) hr3 (((hSt2.out.2.trans hm1).trans hm2).trans hm3) ((hm1.drew.trans hm2).trans hm3) HSZ2.out HSL.out HNE.out HW0.out)
  case rest =>
    obtain ⟨n, rfl, hL⟩ := hcut
    have HL := Lib.hid hL
    have p0 := HK.out _ hL.mv
    have hng := hL.ge
    have hnl := (Array.getElem?_eq_some_iff.1 hL.blk).1
    simp only [World.size_drew, World.size_alloc] at hng
    have hwc : w.heap.size < wc.heap.size := by omega
    have hwc1 : w.heap.size + 1 < wc.heap.size := by omega
    have hblk := hL.blk
    have hb0 : wc.heap[w.heap.size + 1]? = some zFn := (hL.mv.keep (b := w.heap.size + 1) (by simp) (by omega)).trans (heapB w (pbx rb) zFn)
    have hbp : wc.heap[w.heap.size]? = some (pbx rb) := (hL.mv.keep HZL.out HZR.out).trans HPB.out
    have hBo : Bo (wc.alloc (.cells #[.int .i64 0] 3)) w.heap.size wc.heap.size rb 0 := ⟨(heap_alloc_old wc _ hwc).trans hbp, heap_alloc_new wc _, by omega, by have := hL.rd.lt; omega, by omega⟩
    have H5 := Lib.hid (olin_gives w0 (wc.alloc (.cells #[.int .i64 0] 3)) rb w.heap.size wc.heap.size r3 (hL.rd.alloc _) hBo (by omega))
    rw [hq] at H5
    clear hq
    have HBN : Hid ((wc.alloc (.cells #[.int .i64 0] 3)).heap[n]? = some _) := Lib.hid ((heap_alloc_old wc _ hnl).trans hblk)
    have HB0 : Hid ((wc.alloc (.cells #[.int .i64 0] 3)).heap[w.heap.size + 1]? = some zFn) := Lib.hid ((heap_alloc_old wc _ hwc1).trans hb0)
    have HMV : Hid (∀ W, Mw (wc.alloc (.cells #[.int .i64 0] 3)) W rb wc.heap.size → Mv w W rb) := Lib.hid fun W hW =>
      mv_mw (HM0.out.trans (hL.mv.alloc (.cells #[.int .i64 0] 3))) hW (by omega)
    have hnr := hL.ne
    clear hL c0 hSt hblk hb0 hbp hBo
    go_wp2_with fail
    refine H5.out.mono ?_
    rintro e w5 ⟨rfl, hm5⟩
    have HM5 := Lib.hid (HMV.out _ hm5)
    clear hm5
    go_wp2
    exact ⟨rfl, rfl, HM5.out⟩
set_option maxRecDepth 100000 in
set_option maxHeartbeats 8000000 in
theorem ofn_some (w0 w : World) (rb : Nat) (l r1 r2 r3 r : Bs) (cd : List In) (s : ByteArray) (a : Int) (b : Int) (h : Rd w0 w rb l) (h1 : textD l = some (s, r1)) (h2 : numD r1 = some (a, r2)) (h3 : numD r2 = some (b, r3)) (hq : codeL r3 = some (cd, r)) :
    Calls Try.prog 65 #[.pointer (some ⟨rb, 0, none⟩)] w (FGives w0 w rb (some (⟨s, a, b, cd⟩, r))) := by
  have hmf : ∀ (fn : Fn) (first cap : Array Value) (w : World), (Instr.makeFunc fn first cap).run Try.prog w = .ok (.func fn first cap) w := fun _ _ _ _ => rfl
  have hlt := h.lt
  have hw0 := h.bel.size
  have HRA : Hid (Rd w0 ((w.alloc (pbx rb)).alloc zFn).drew rb l) := Lib.hid (((h.alloc (pbx rb)).alloc zFn).drew)
  have HM0 : Hid (Mv w ((w.alloc (pbx rb)).alloc zFn).drew rb) := Lib.hid (Mv.drew' (((Mv.refl w rb).alloc (pbx rb)).alloc zFn))
  have HPB : Hid (((w.alloc (pbx rb)).alloc zFn).drew.heap[w.heap.size]? = some (pbx rb)) := Lib.hid (heap2a w (pbx rb) zFn)
  have HZL : Hid (w.heap.size < ((w.alloc (pbx rb)).alloc zFn).drew.heap.size) := Lib.hid (by simp; omega)
  have HZR : Hid (w.heap.size ≠ rb) := Lib.hid (by omega)
  have HK : Hid (∀ V, Mv ((w.alloc (pbx rb)).alloc zFn).drew V rb → V.cell? ⟨w.heap.size, 0, none⟩ = some (.pointer (some ⟨rb, 0, none⟩))) := Lib.hid fun V hV => by
    have := (hV.keep HZL.out HZR.out).trans HPB.out
    simp [World.cell?, this]
  have c0 := HK.out _ (Mv.refl _ _)
  have N1 := Lib.hid h1
  have N2 := Lib.hid h2
  have N3 := Lib.hid h3
  have KC : Hid (∀ V W, (V.cell? ⟨w.heap.size, 0, none⟩ = some (.pointer (some ⟨rb, 0, none⟩)) ∧ Mv ((w.alloc (pbx rb)).alloc zFn).drew V rb) → Mv V W rb → (W.cell? ⟨w.heap.size, 0, none⟩ = some (.pointer (some ⟨rb, 0, none⟩)) ∧ Mv ((w.alloc (pbx rb)).alloc zFn).drew W rb)) := Lib.hid fun V W h hm => ⟨HK.out _ (h.2.trans hm), h.2.trans hm⟩
  have KA : Hid (∀ V o, (V.cell? ⟨w.heap.size, 0, none⟩ = some (.pointer (some ⟨rb, 0, none⟩)) ∧ Mv ((w.alloc (pbx rb)).alloc zFn).drew V rb) → ((V.alloc o).cell? ⟨w.heap.size, 0, none⟩ = some (.pointer (some ⟨rb, 0, none⟩)) ∧ Mv ((w.alloc (pbx rb)).alloc zFn).drew (V.alloc o) rb)) := Lib.hid fun V o h => ⟨HK.out _ (h.2.alloc o), h.2.alloc o⟩
  have KS : Hid (∀ V b a0 a1 a2 a3, ((w.alloc (pbx rb)).alloc zFn).drew.heap.size ≤ b → (V.cell? ⟨w.heap.size, 0, none⟩ = some (.pointer (some ⟨rb, 0, none⟩)) ∧ Mv ((w.alloc (pbx rb)).alloc zFn).drew V rb) → (((((V.setCell ⟨b, 0, none⟩ a0).setCell ⟨b, 1, none⟩ a1).setCell ⟨b, 2, none⟩ a2).setCell ⟨b, 3, none⟩ a3).cell? ⟨w.heap.size, 0, none⟩ = some (.pointer (some ⟨rb, 0, none⟩)) ∧ Mv ((w.alloc (pbx rb)).alloc zFn).drew ((((V.setCell ⟨b, 0, none⟩ a0).setCell ⟨b, 1, none⟩ a1).setCell ⟨b, 2, none⟩ a2).setCell ⟨b, 3, none⟩ a3) rb)) := Lib.hid fun V b a0 a1 a2 a3 hb h => ⟨HK.out _ ((((h.2.other hb).other hb).other hb).other hb), (((h.2.other hb).other hb).other hb).other hb⟩
  have KZ : Hid (∀ V, Mv ((w.alloc (pbx rb)).alloc zFn).drew V rb → ((w.alloc (pbx rb)).alloc zFn).drew.heap.size ≤ V.heap.size) := Lib.hid fun V h => h.size
  have HSZ2 : Hid (w.heap.size + 1 + 1 = ((w.alloc (pbx rb)).alloc zFn).heap.size) := Lib.hid (by simp)
  have HNE : Hid (w.heap.size + 1 + 1 ≠ rb) := Lib.hid (by omega)
  have HSL : Hid (((w.alloc (pbx rb)).alloc zFn).drew.heap.size ≤ w.heap.size + 1 + 1) := Lib.hid (by simp)
  have hSt : (((w.alloc (pbx rb)).alloc zFn).drew.cell? ⟨w.heap.size, 0, none⟩ = some (.pointer (some ⟨rb, 0, none⟩)) ∧ Mv ((w.alloc (pbx rb)).alloc zFn).drew ((w.alloc (pbx rb)).alloc zFn).drew rb) := ⟨c0, Mv.refl _ _⟩
  have HW0 : Hid (w0.heap.size ≤ ((w.alloc (pbx rb)).alloc zFn).drew.heap.size) := Lib.hid (by simp; omega)
  have hSt2 : Hid ((((w.alloc (pbx rb)).alloc zFn).alloc zFn).drew.cell? ⟨w.heap.size, 0, none⟩ = some (.pointer (some ⟨rb, 0, none⟩)) ∧ Mv ((w.alloc (pbx rb)).alloc zFn).drew (((w.alloc (pbx rb)).alloc zFn).alloc zFn).drew rb) := Lib.hid (KA.out ((w.alloc (pbx rb)).alloc zFn).drew zFn hSt)
  have HRA2 : Hid (Rd w0 (((w.alloc (pbx rb)).alloc zFn).alloc zFn).drew rb l) := Lib.hid ((((h.alloc (pbx rb)).alloc zFn).alloc zFn).drew)
  have HPF : Hid (∀ V W, Mv V W rb → (V.cell? ⟨w.heap.size, 0, none⟩ = some (.pointer (some ⟨rb, 0, none⟩)) ∧ Mv ((w.alloc (pbx rb)).alloc zFn).drew V rb) → Mv w W rb) := Lib.hid fun V W h2 h1 => (HM0.out.trans h1.2).trans h2
  clear h h1 h2 h3
  go_enter Try.func65, Try.ntmps65
  go_upto_region 1 with fail
  go_cut [3] (fun s3 w' => ∃ n, s3 = .pointer (some ⟨n, 0, none⟩) ∧ Lg w0 ((w.alloc (pbx rb)).alloc zFn).drew w' rb n r3 #[.string s, .int .i64 a, .int .i64 b, .slice none 0 0])
  case first =>
   go_region_held3 (fun w' => w'.cell? ⟨w.heap.size, 0, none⟩ = some (.pointer (some ⟨rb, 0, none⟩)) ∧ Mv ((w.alloc (pbx rb)).alloc zFn).drew w' rb)
     (first
       | (with_reducible exact hSt)
       | (with_reducible exact hSt2.out)
       | (with_reducible assumption)
       | (with_reducible exact KS.out _ _ _ _ _ _ (KZ.out _ (hm1.trans hm2)) ‹_›)
       | (with_reducible exact KS.out _ _ _ _ _ _ (KZ.out _ hm1) ‹_›)
       | (with_reducible exact KS.out _ _ _ _ _ _ HSL.out ‹_›)
       | (with_reducible exact KC.out _ _ ‹_› hm3)
       | (with_reducible exact KC.out _ _ ‹_› hm2)
       | (with_reducible exact KC.out _ _ ‹_› hm1)
       | (with_reducible exact KA.out _ _ ‹_›)
       | (with_reducible exact KA.out _ _ (KC.out _ _ (KC.out _ _ (KC.out _ _ hSt hm1) hm2) hm3)))
     (first
       | (go_at_call 66; (with_reducible refine (onum_some (by first | with_reducible exact hr2 | with_reducible exact hr2.alloc _) N3.out).mono ?_); rintro e w3 ⟨rfl, hr3, hm3⟩; first | (with_reducible (have y0 := (bx4 (n := w2.heap.size) hm3 rfl (ne_sz hr2)).1.1; have y1 := (bx4 (n := w2.heap.size) hm3 rfl (ne_sz hr2)).1.2.1; have y2 := (bx4 (n := w2.heap.size) hm3 rfl (ne_sz hr2)).1.2.2.1; have y3 := (bx4 (n := w2.heap.size) hm3 rfl (ne_sz hr2)).1.2.2.2; have y4 := (bx4 (n := w2.heap.size) hm3 rfl (ne_sz hr2)).2.1; have y5 := (bx4 (n := w2.heap.size) hm3 rfl (ne_sz hr2)).2.2.1; have y6 := (bx4 (n := w2.heap.size) hm3 rfl (ne_sz hr2)).2.2.2.1; have y7 := (bx4 (n := w2.heap.size) hm3 rfl (ne_sz hr2)).2.2.2.2)) | (with_reducible (have y0 := (bx4 (n := w1.heap.size) (hm2.trans hm3) rfl (ne_sz hr1)).1.1; have y1 := (bx4 (n := w1.heap.size) (hm2.trans hm3) rfl (ne_sz hr1)).1.2.1; have y2 := (bx4 (n := w1.heap.size) (hm2.trans hm3) rfl (ne_sz hr1)).1.2.2.1; have y3 := (bx4 (n := w1.heap.size) (hm2.trans hm3) rfl (ne_sz hr1)).1.2.2.2; have y4 := (bx4 (n := w1.heap.size) (hm2.trans hm3) rfl (ne_sz hr1)).2.1; have y5 := (bx4 (n := w1.heap.size) (hm2.trans hm3) rfl (ne_sz hr1)).2.2.1; have y6 := (bx4 (n := w1.heap.size) (hm2.trans hm3) rfl (ne_sz hr1)).2.2.2.1; have y7 := (bx4 (n := w1.heap.size) (hm2.trans hm3) rfl (ne_sz hr1)).2.2.2.2)) | (with_reducible (have y0 := (bx4 (n := w.heap.size + 1 + 1) ((hm1.drew.trans hm2).trans hm3) HSZ2.out HNE.out).1.1; have y1 := (bx4 (n := w.heap.size + 1 + 1) ((hm1.drew.trans hm2).trans hm3) HSZ2.out HNE.out).1.2.1; have y2 := (bx4 (n := w.heap.size + 1 + 1) ((hm1.drew.trans hm2).trans hm3) HSZ2.out HNE.out).1.2.2.1; have y3 := (bx4 (n := w.heap.size + 1 + 1) ((hm1.drew.trans hm2).trans hm3) HSZ2.out HNE.out).1.2.2.2; have y4 := (bx4 (n := w.heap.size + 1 + 1) ((hm1.drew.trans hm2).trans hm3) HSZ2.out HNE.out).2.1; have y5 := (bx4 (n := w.heap.size + 1 + 1) ((hm1.drew.trans hm2).trans hm3) HSZ2.out HNE.out).2.2.1; have y6 := (bx4 (n := w.heap.size + 1 + 1) ((hm1.drew.trans hm2).trans hm3) HSZ2.out HNE.out).2.2.2.1; have y7 := (bx4 (n := w.heap.size + 1 + 1) ((hm1.drew.trans hm2).trans hm3) HSZ2.out HNE.out).2.2.2.2)) | skip)
       | (go_at_call 66; (with_reducible refine (onum_some (by first | with_reducible exact hr1 | with_reducible exact hr1.alloc _) N2.out).mono ?_); rintro e w2 ⟨rfl, hr2, hm2⟩)
       | (go_at_call 73; (with_reducible refine (otext_some (by first | with_reducible exact HRA.out | with_reducible exact HRA2.out) N1.out).mono ?_); rintro e w1 ⟨rfl, hr1, hm1⟩))
   all_goals
     go_wp2_with fail
     go_meet
     case rel =>
       first
         | (with_reducible refine ⟨w3.heap.size, rfl, ?_⟩; exact lg_alloc hr3 ((hm1.trans hm2).trans hm3))
         | (with_reducible refine ⟨w2.heap.size, rfl, ?_⟩; exact lg_set (V := w2) hr3 (((hm1.trans hm2).alloc zFn).trans hm3) hm3 rfl (KZ.out _ (hm1.trans hm2)) (ne_sz hr2) HW0.out)
         | (with_reducible refine ⟨w1.heap.size, rfl, ?_⟩; exact lg_set (V := w1) hr3 (((hm1.alloc zFn).trans hm2).trans hm3) (hm2.trans hm3) rfl (KZ.out _ hm1) (ne_sz hr1) HW0.out)
         | (with_reducible refine ⟨w.heap.size + 1 + 1, rfl, ?_⟩; exact lg_set (V := ((w.alloc (pbx rb)).alloc zFn)) hr3 (((hSt2.out.2.trans hm1).trans hm2).trans hm3) ((hm1.drew.trans hm2).trans hm3) HSZ2.out HSL.out HNE.out HW0.out)
  case rest =>
    obtain ⟨n, rfl, hL⟩ := hcut
    have HL := Lib.hid hL
    have p0 := HK.out _ hL.mv
    have hng := hL.ge
    have hnl := (Array.getElem?_eq_some_iff.1 hL.blk).1
    simp only [World.size_drew, World.size_alloc] at hng
    have hwc : w.heap.size < wc.heap.size := by omega
    have hwc1 : w.heap.size + 1 < wc.heap.size := by omega
    have hblk := hL.blk
    have hb0 : wc.heap[w.heap.size + 1]? = some zFn := (hL.mv.keep (b := w.heap.size + 1) (by simp) (by omega)).trans (heapB w (pbx rb) zFn)
    have hbp : wc.heap[w.heap.size]? = some (pbx rb) := (hL.mv.keep HZL.out HZR.out).trans HPB.out
    have hBo : Bo (wc.alloc (.cells #[.int .i64 0] 3)) w.heap.size wc.heap.size rb 0 := ⟨(heap_alloc_old wc _ hwc).trans hbp, heap_alloc_new wc _, by omega, by have := hL.rd.lt; omega, by omega⟩
    have H5 := Lib.hid (olin_gives w0 (wc.alloc (.cells #[.int .i64 0] 3)) rb w.heap.size wc.heap.size r3 (hL.rd.alloc _) hBo (by omega))
    rw [hq] at H5
    clear hq
    have HBN : Hid ((wc.alloc (.cells #[.int .i64 0] 3)).heap[n]? = some _) := Lib.hid ((heap_alloc_old wc _ hnl).trans hblk)
    have HB0 : Hid ((wc.alloc (.cells #[.int .i64 0] 3)).heap[w.heap.size + 1]? = some zFn) := Lib.hid ((heap_alloc_old wc _ hwc1).trans hb0)
    have HMV : Hid (∀ W, Mw (wc.alloc (.cells #[.int .i64 0] 3)) W rb wc.heap.size → Mv w W rb) := Lib.hid fun W hW =>
      mv_mw (HM0.out.trans (hL.mv.alloc (.cells #[.int .i64 0] 3))) hW (by omega)
    have hnr := hL.ne
    clear hL c0 hSt hblk hb0 hbp hBo
    go_wp2_with fail
    refine H5.out.mono ?_
    rintro e w5 ⟨v, rfl, hr5, hm5, he5⟩
    have hn5 : w5.heap[n]? = some (.cells #[.string s, .int .i64 a, .int .i64 b, .slice none 0 0] 55 (0, 0)) := (hm5.keep (by simp; omega) hnr (by omega)).trans HBN.out
    have ho5 : w5.heap[w.heap.size + 1]? = some zFn := (hm5.keep (by simp; omega) (by omega) (by omega)).trans HB0.out
    obtain ⟨⟨g0, g1, g2, g3⟩, z0, z1, z2, z3⟩ := cells4 hn5
    obtain ⟨⟨e0, e1, e2, e3⟩, y0, y1, y2, y3⟩ := cells4 ho5
    obtain ⟨Ac, cc, hv, _⟩ := id he5
    have d3 : n ≠ w.heap.size + 1 := by omega
    have d4 : w.heap.size + 1 ≠ n := by omega
    have d7 : w.heap.size + 1 ≠ rb := by omega
    have HR5 := Lib.hid hr5
    have HM5 := Lib.hid (HMV.out _ hm5)
    have HE5 := Lib.hid he5
    have HN5 := Lib.hid hn5
    have HO5 := Lib.hid ho5
    obtain ⟨lc, hlc⟩ : ∃ lc, (cd.take 1001).length = lc := ⟨_, rfl⟩
    rw [hlc] at hv
    subst hv
    clear hr5 hm5 he5 hn5 ho5 hlc
    go_wp2
    refine bodyPost_ret (results_cell_row rfl _ _ (w.heap.size + 1) 55 #[.string s, .int .i64 a, .int .i64 b, .slice Ac lc cc] (0, 0) _ rfl (by simp [World.setCell, Array.getElem?_modify, HN5.out, HO5.out, d3, d4]) Try.underlying55 rfl infoFn4) rfl ?_
    refine ⟨_, rfl, ?_, ?_, ?_⟩
    · exact ((((HR5.out.other hnr (by omega)).other d7 (by omega)).other d7 (by omega)).other d7 (by omega)).other d7 (by omega)
    · exact ((((HM5.out.other (by omega)).other (by omega)).other (by omega)).other (by omega)).other (by omega)
    · refine (HE5.out.keep loc_in (fun g h1 h2 h3 => ⟨?_, h3⟩) (by simp)).weak (by simp; omega)
      have k1 : g ≠ n := by simp at h1; omega
      have k2 : g ≠ w.heap.size + 1 := by simp at h1; omega
      rw [heap_setCell_other _ _ _ _ k2, heap_setCell_other _ _ _ _ k2, heap_setCell_other _ _ _ _ k2, heap_setCell_other _ _ _ _ k2, heap_setCell_other _ _ _ _ k1]
theorem ofn_gives (w0 w : World) (rb : Nat) (l : Bs) (h : Rd w0 w rb l) : Calls Try.prog 65 #[.pointer (some ⟨rb, 0, none⟩)] w (FGives w0 w rb (fnD l)) := by
  unfold fnD
  cases h1 : textD l with
  | none => exact ofn_none1 w0 w rb l h h1
  | some q =>
  obtain ⟨s, r1⟩ := q
  simp only
  cases h2 : numD r1 with
  | none => exact ofn_none2 w0 w rb l r1 s h h1 h2
  | some q =>
  obtain ⟨a, r2⟩ := q
  simp only
  cases h3 : numD r2 with
  | none => exact ofn_none3 w0 w rb l r1 r2 s a h h1 h2 h3
  | some q =>
  obtain ⟨b, r3⟩ := q
  simp only
  cases hc : countD r3 with
  | none => exact ofn_none4 w0 w rb l r1 r2 r3 s a b h h1 h2 h3 (by unfold codeL; rw [hc])
  | some q =>
  obtain ⟨n, r4⟩ := q
  simp only
  cases hq : codeD n 0 r4 with
  | none => exact ofn_none4 w0 w rb l r1 r2 r3 s a b h h1 h2 h3 (by unfold codeL; rw [hc]; exact hq)
  | some q =>
  obtain ⟨cd, r5⟩ := q
  exact ofn_some w0 w rb l r1 r2 r3 r5 cd s a b h h1 h2 h3 (by unfold codeL; rw [hc]; exact hq)
end Go.Proofs.Ytlkaeonedijfpaa

namespace Go.Proofs.Ytlkaeonedijfpaa
open Go.RowKit C
theorem ofn_somek {w0 w : World} {rb : Nat} {l r : Bs} {x : Fc} (h : Rd w0 w rb l) (hd : fnD l = some (x, r)) :
    Calls Try.prog 65 #[.pointer (some ⟨rb, 0, none⟩)] w fun e w' => ∃ v, e = .returned (.agg #[.string x.name, .int .i64 x.params, .int .i64 x.regs, v]) ∧ Rd w0 w' rb r ∧ Mv w w' rb ∧ El 5 InAt w.heap.size w' none (x.code.take 1001) v := by
  have := ofn_gives w0 w rb l h
  rw [hd] at this; exact this
theorem ofn_nonek {w0 w : World} {rb : Nat} {l : Bs} (h : Rd w0 w rb l) (hd : fnD l = none) :
    Calls Try.prog 65 #[.pointer (some ⟨rb, 0, none⟩)] w fun e w' => e = PE ∧ Mv w w' rb := by
  have := ofn_gives w0 w rb l h
  rw [hd] at this; exact this
set_option maxRecDepth 100000 in
set_option maxHeartbeats 8000000 in
theorem olfn_gives (w0 w : World) (rb : Nat) (l : Bs) (h : Rd w0 w rb l) :
    Calls Try.prog 64 #[.pointer (some ⟨rb, 0, none⟩), .int .i64 64, .func (.func 65) #[.pointer (some ⟨rb, 0, none⟩)] #[]] w (LGives w0 w rb 4 (FnN w.heap.size) 65 (listD fnD l)) := by
  cases hc : countD l with
  | none =>
    have H1 := Lib.hid (ocount_none h hc)
    have HL : Hid (listD fnD l = none) := Lib.hid (by unfold listD; rw [hc])
    clear h hc
    go_enter Try.func64, Try.ntmps64
    go_wp2_with fail
    refine H1.out.mono ?_
    rintro e w1 ⟨rfl, hm1⟩
    have HM := Lib.hid hm1
    clear hm1
    go_wp2
    exact ⟨rfl, by rw [HL.out]; exact ⟨rfl, HM.out⟩⟩
  | some q =>
    obtain ⟨n, r⟩ := q
    have HL : Hid (listD fnD l = repD fnD n r) := Lib.hid (by unfold listD; rw [hc])
    have H1 := Lib.hid (ocount_some h hc)
    have hrb := h.lt
    have hw0 := h.bel.size
    obtain ⟨hrl, hnr⟩ := countD_len hc
    have hmx := h.max
    have hnm : n ≤ 9223372036854775807 := by omega
    clear h hc
    go_enter Try.func64, Try.ntmps64
    go_wp2_with fail
    refine H1.out.mono ?_
    rintro e w1 ⟨rfl, hr1, hm1⟩
    have HR1 := Lib.hid hr1
    have HM1 := Lib.hid hm1
    clear hr1 hm1 hrl hnr hmx
    go_wp2_with fail
    go_loopw [7, 11] (fun s7 s11 wr => ∃ (k : Nat) (ys : List Fc) (lk : Bs) (A : Option Addr) (c m : Nat), s11 = .int .i64 (k : Int) ∧ s7 = .slice A m c ∧ Pre fnD n r k ys lk ∧ (∃ zs : List (Fc × Value), zs.map (·.1) = ys ∧ Fil 55 4 64 fnC w.heap.size wr (.slice A m c) m zs ∧ Els 5 64 InAt (fun x : Fc => x.code.take 1001) w.heap.size wr (.slice A m c) zs) ∧ Rd w0 wr rb lk ∧ Mv w wr rb) (fun _ s11 _ => n - (intOf s11).toNat)
    case atStart => exact ⟨0, [], r, none, 0, 0, rfl, rfl, Pre.start _ _ _, ⟨[], rfl, Fil.start _ _ _ _ _ _, Els.start _ _ _ _ _ _ _⟩, HR1.out, HM1.out⟩
    case round =>
      obtain ⟨k, ys, lk, A, c, m, rfl, rfl, hp, ho, hr, hm⟩ := hrel
      have hk := hp.2.1
      have HP := Lib.hid hp
      have HR := Lib.hid hr
      have HM := Lib.hid hm
      have hms := hm.size
      clear hp hr hm
      obtain ⟨zs, hz, ho, he⟩ := ho
      have HML : Hid (m ≤ 65) := Lib.hid (by have := ho.1; rw [List.length_take] at this; omega)
      have HZ := Lib.hid hz
      have HEE := Lib.hid he
      clear hz he
      by_cases hlt : k < n
      · cases hn : fnD lk with
        | none =>
          have H2 := Lib.hid (ofn_nonek HR.out hn)
          have HS : Hid (repD fnD n r = none) := Lib.hid (HP.out.stop hlt hn)
          clear hn ho
          go_wp2_with fail
          refine H2.out.mono ?_
          rintro e w2 ⟨rfl, hm2⟩
          have HM2 := Lib.hid (HM.out.trans hm2)
          clear hm2
          go_wp2
          exact ⟨rfl, by rw [HL.out, HS.out]; exact ⟨rfl, HM2.out⟩⟩
        | some q =>
          obtain ⟨x, r2⟩ := q
          have H2 := Lib.hid (ofn_somek HR.out hn)
          have HPN := Lib.hid (HP.out.next hlt hn)
          have HX := Lib.hid hn
          have HO := Lib.hid ho
          clear hn ho
          go_wp2_with fail
          refine H2.out.mono ?_
          rintro e w2 ⟨vx, rfl, hr2, hm2, hex⟩
          have HR2 := Lib.hid hr2
          have HM2 := Lib.hid hm2
          have hms2 := hm2.size
          clear hr2 hm2
          have HO2 : Hid (Fil 55 4 64 fnC w.heap.size w2 (.slice A m c) m zs) := Lib.hid (HO.out.mv HM2.out hrb)
          obtain ⟨lx, hlx⟩ : ∃ lx, (x.code.take 1001).length = lx := ⟨_, rfl⟩
          have hex2 := hex
          obtain ⟨Ax, cx, hvx, _⟩ := hex2
          rw [hlx] at hvx
          subst hvx
          have HEX := Lib.hid hex
          clear hex hlx
          have HE2 : Hid (Els 5 64 InAt (fun x : Fc => x.code.take 1001) w.heap.size w2 (.slice A m c) (zs ++ [(x, .slice Ax lx cx)])) := Lib.hid ((HEE.out.mv loc_in HM2.out hrb).more (El.beside (B' := w.heap.size) HEX.out hms (fun b e => by have := (HO.out.2.lt b e).2; exact this)))
          by_cases hll : m ≤ 64
          · have hle : ((m : Int) ≤ 64) := by omega
            obtain ⟨i0, hi, hz0, hz1, hz2⟩ := info_parts infoFn
            go_wp2_with (at_builtin; refine wpList_append_lies _ rfl _ _ _ rfl w.heap.size 55 i0 _ 4 56 Try.underlying27 hi hz0 hz1 hz2 rfl (by omega) (.slice A m c) m _ rfl (World.ownsRow.alloc (World.ownsRow.alloc HO2.out.2 _) _) ⟨w2.heap.size + 1, 0, none⟩ 1 1 [.string x.name, .int .i64 x.params, .int .i64 x.regs, .slice Ax lx cx] rfl rfl (World.news_of_block (cs := #[.string x.name, .int .i64 x.params, .int .i64 x.regs, .slice Ax lx cx]) (t := 55) (fr := (0, 0)) (heapB w2 _ _)) (by simp [Value.oneCell']) (by omega) (by unfold maxLen; omega) (by omega) (by first | omega | (simp; omega)) (w2.heap.size + 1 + 1) (by first | rfl | simp) ?_; intro g1 cap1 w4 hown1 hgr1 hat1 hlt1)
            have hgx : Gr w2 (.slice A m c) w4 (.slice (some ⟨g1, 0, none⟩) (m + 1) cap1) := (((Gr.refl _ _).alloc _).alloc _).trans (Gr.of hgr1 (by simpa using hat1) rfl)
            have HGX := Lib.hid hgx
            have HOW := Lib.hid hown1
            have hrn : (Value.slice A m c).ownBlock ≠ some rb := fun e => by have := (HO2.out.2.lt rb e).1; omega
            have HRM : Hid (Rd w0 w4 rb r2 ∧ Mv w w4 rb) := Lib.hid ⟨HR2.out.gr hgx hrn (fun b e => Nat.le_trans hw0 (HO2.out.2.lt b e).1), (HM.out.trans HM2.out).gr hgx (fun b e => (HO2.out.2.lt b e).1)⟩
            have HNX : Hid (∃ zs : List (Fc × Value), zs.map (·.1) = ys ++ [x] ∧ Fil 55 4 64 fnC w.heap.size w4 (.slice (some ⟨g1, 0, none⟩) (m + 1) cap1) (m + 1) zs ∧ Els 5 64 InAt (fun x : Fc => x.code.take 1001) w.heap.size w4 (.slice (some ⟨g1, 0, none⟩) (m + 1) cap1) zs) := Lib.hid (⟨zs ++ [(x, .slice Ax lx cx)], by rw [List.map_append, HZ.out]; rfl, HO2.out.more hll HOW.out rfl, HE2.out.gr loc_in hgx⟩)
            clear hown1 hgr1 hat1 hgx hrn hi
            go_wp2
            go_roundw
            case rel => exact ⟨k + 1, ys ++ [x], r2, some ⟨g1, 0, none⟩, cap1, m + 1, by go_num, rfl, HPN.out, HNX.out, HRM.out.1, HRM.out.2⟩
            case measure => simp [intOf]; omega
          · have hle : decide ((m : Int) ≤ 64) = false := by simp; omega
            have HNX : Hid (∃ zs : List (Fc × Value), zs.map (·.1) = ys ++ [x] ∧ Fil 55 4 64 fnC w.heap.size (w2.alloc (.cells #[.string x.name, .int .i64 x.params, .int .i64 x.regs, .slice Ax lx cx] 55)) (.slice A m c) m zs ∧ Els 5 64 InAt (fun x : Fc => x.code.take 1001) w.heap.size (w2.alloc (.cells #[.string x.name, .int .i64 x.params, .int .i64 x.regs, .slice Ax lx cx] 55)) (.slice A m c) zs) := Lib.hid (⟨zs ++ [(x, .slice Ax lx cx)], by rw [List.map_append, HZ.out]; rfl, (HO2.out.same hll).alloc _, HE2.out.alloc loc_in _⟩)
            have HRM : Hid (Rd w0 (w2.alloc (.cells #[.string x.name, .int .i64 x.params, .int .i64 x.regs, .slice Ax lx cx] 55)) rb r2 ∧ Mv w (w2.alloc (.cells #[.string x.name, .int .i64 x.params, .int .i64 x.regs, .slice Ax lx cx] 55)) rb) := Lib.hid ⟨HR2.out.alloc _, (HM.out.trans HM2.out).alloc _⟩
            go_wp2
            go_roundw
            case rel => exact ⟨k + 1, ys ++ [x], r2, A, c, m, by go_num, rfl, HPN.out, HNX.out, HRM.out.1, HRM.out.2⟩
            case measure => simp [intOf]; omega
      · obtain rfl : k = n := by omega
        have HD := Lib.hid HP.out.done
        have HO := Lib.hid ho
        clear ho
        go_wp2
        go_ret
        rw [HL.out, HD.out]
        exact ⟨_, rfl, HR.out, HM.out, by
          have h1 := el_filT (R := fun V (z : Fc × Value) g o => FnN w.heap.size V z.1 g o) HO.out (fun _ => rfl) (fun z hz g o hg hr => by
            have hz1 : z.1 ∈ ys := by rw [← HZ.out]; exact List.mem_map_of_mem (f := (·.1)) (List.mem_of_mem_take hz)
            obtain ⟨j1, j2, j3, _, _⟩ := (repD_of fn_codec _ _ _ _ HD.out).2.2 z.1 hz1
            exact ⟨hg, by have := hr 0 (by omega); simpa using this, by have := hr 1 (by omega); simpa using this, by have := hr 2 (by omega); simpa using this, ⟨z.2, by have := hr 3 (by omega); simpa using this, (HEE.out z hz).none'⟩, by have := j1.2; unfold maxLen; omega, j2, j3⟩)
          have h2 := h1.imp (S := FnN w.heap.size) (fun z : Fc × Value => z.1) (fun _ _ _ _ h => h)
          rw [List.map_take, HZ.out] at h2
          exact h2⟩
end Go.Proofs.Ytlkaeonedijfpaa
