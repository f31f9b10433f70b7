/-
  The program's list of integers.
  The program's globals.
  The program's layouts.
-/
import Derived.Test.YtlkaeonedijfpaaQA
set_option linter.all false
namespace Go.Proofs.Ytlkaeonedijfpaa
open Go.RowKit C
def LGives {α : Type} (w0 w : World) (rb : Nat) (k : Nat) (R : World → α → Nat → Nat → Prop) (lim : Nat) (o : Option (List α × Bs)) (e : Ending) (w' : World) : Prop :=
  match o with
  | none => e = PE ∧ Mv w w' rb
  | some (xs, l') => ∃ v, e = .returned v ∧ Rd w0 w' rb l' ∧ Mv w w' rb ∧ El k R w.heap.size w' none (xs.take lim) v
theorem Rd.gr {w0 w w' : World} {rb : Nat} {l : Bs} {v v' : Value} (h : Rd w0 w rb l) (hg : Gr w v w' v') (hn : v.ownBlock ≠ some rb) (hb : ∀ k, v.ownBlock = some k → w0.heap.size ≤ k) : Rd w0 w' rb l := by
  obtain ⟨A, cap, hbk, r⟩ := h.blk
  exact ⟨⟨A, cap, (hg.keep (Array.getElem?_eq_some_iff.1 hbk).1 hn).1.trans hbk, r⟩, h.bel.trans (hg.below h.bel.size hb), h.lb⟩
theorem Mv.gr {w w1 w2 : World} {rb : Nat} {v v' : Value} (h : Mv w w1 rb) (hg : Gr w1 v w2 v') (hv : ∀ b, v.ownBlock = some b → w.heap.size ≤ b) : Mv w w2 rb :=
  grown_trans h hg.g fun k hk => .inr (hv k hk)
/-- Rows of cells that are filled, no longer than the limit. -/
def Fil {α : Type} (t : TypeId) (sz lim : Nat) (cl : α → List Value) (B : Nat) (w : World) (v : Value) (m : Nat) (ys : List α) : Prop := (ys.take (lim + 1)).length = m ∧ w.ownsRow B t sz v m (((ys.take (lim + 1)).map cl).flatten)
theorem Fil.start {α : Type} (t : TypeId) (sz lim : Nat) (cl : α → List Value) (B : Nat) (w : World) : Fil t sz lim cl B w (.slice none 0 0) 0 ([] : List α) := ⟨by simp, by simpa using World.ownsRow_nil _ _ _ _⟩
theorem Fil.more {α : Type} {t : TypeId} {sz lim : Nat} {cl : α → List Value} {B : Nat} {w w' : World} {v v' : Value} {m : Nat} {ys : List α} {x : α} {news : List Value} (h : Fil t sz lim cl B w v m ys) (hm : m ≤ lim) (ho : w'.ownsRow B t sz v' (m + 1) (((ys.take (lim + 1)).map cl).flatten ++ news)) (hn : news = cl x) : Fil t sz lim cl B w' v' (m + 1) (ys ++ [x]) := by
  have h1 := h.1
  rw [List.length_take] at h1
  have e1 : ys.take (lim + 1) = ys := List.take_of_length_le (by omega)
  have e2 : (ys ++ [x]).take (lim + 1) = ys ++ [x] := List.take_of_length_le (by rw [List.length_append]; simp; omega)
  refine ⟨by rw [e2, List.length_append]; simp; omega, ?_⟩
  rw [e2, List.map_append, List.flatten_append]
  rw [e1, hn] at ho
  simpa using ho
theorem Fil.same {α : Type} {t : TypeId} {sz lim : Nat} {cl : α → List Value} {B : Nat} {w : World} {v : Value} {m : Nat} {ys : List α} {x : α} (h : Fil t sz lim cl B w v m ys) (hm : ¬ m ≤ lim) : Fil t sz lim cl B w v m (ys ++ [x]) := by
  have h1 := h.1
  rw [List.length_take] at h1
  have e : (ys ++ [x]).take (lim + 1) = ys.take (lim + 1) := by rw [List.take_append_of_le_length (by omega)]
  unfold Fil
  rw [e]; exact h
theorem Fil.mv {α : Type} {t : TypeId} {sz lim : Nat} {cl : α → List Value} {B rb : Nat} {w w' : World} {v : Value} {m : Nat} {ys : List α} (h : Fil t sz lim cl B w v m ys) (hm : Mv w w' rb) (hrb : rb < B) : Fil t sz lim cl B w' v m ys := ⟨h.1, own_mv h.2 hm hrb⟩
theorem el_fil {α : Type} {k lim : Nat} {R : World → α → Nat → Nat → Prop} {B : Nat} {w : World} {t : TypeId} {v : Value} {m : Nat} {ys : List α} {cl : α → List Value} (h : Fil t k lim cl B w v m ys) (hk : ∀ x, (cl x).length = k) (hR : ∀ x ∈ ys, ∀ g o, g < w.heap.size → (∀ r, r < k → w.cell? ⟨g, o + r, none⟩ = (cl x)[r]?) → R w x g o) : El k R B w none (ys.take (lim + 1)) v := by
  obtain ⟨h1, h2⟩ := h
  subst h1
  exact el_own hk h2 fun x hx => hR x (List.mem_of_mem_take hx)
theorem Fil.alloc {α : Type} {t : TypeId} {sz lim : Nat} {cl : α → List Value} {B : Nat} {w : World} {v : Value} {m : Nat} {ys : List α} (h : Fil t sz lim cl B w v m ys) (o : Obj) : Fil t sz lim cl B (w.alloc o) v m ys := ⟨h.1, World.ownsRow.alloc h.2 o⟩
set_option maxRecDepth 100000 in
set_option maxHeartbeats 8000000 in
theorem olint_gives (w0 w : World) (rb : Nat) (l : Bs) (h : Rd w0 w rb l) :
    Calls Try.prog 74 #[.pointer (some ⟨rb, 0, none⟩), .int .i64 64, .func (.func 66) #[.pointer (some ⟨rb, 0, none⟩)] #[]] w (LGives w0 w rb 1 IntAt 65 (listD numD l)) := by
  cases hc : countD l with
  | none =>
    have H1 := Lib.hid (ocount_none h hc)
    have HL : Hid (listD numD l = none) := Lib.hid (by unfold listD; rw [hc])
    clear h hc
    go_enter Try.func74, Try.ntmps74
    go_wp2_with fail
    refine H1.out.mono ?_
    rintro e w1 ⟨rfl, hm1⟩
    have HM := Lib.hid hm1
    clear hm1
    go_wp2
    exact ⟨rfl, by rw [HL.out]; exact ⟨rfl, HM.out⟩⟩
  | some q =>
    obtain ⟨n, r⟩ := q
    have HL : Hid (listD numD l = repD numD n r) := Lib.hid (by unfold listD; rw [hc])
    have H1 := Lib.hid (ocount_some h hc)
    have hrb := h.lt
    have hw0 := h.bel.size
    obtain ⟨hrl, hnr⟩ := countD_len hc
    have hmx := h.max
    have hnm : n ≤ 9223372036854775807 := by omega
    clear h hc
    go_enter Try.func74, Try.ntmps74
    go_wp2_with fail
    refine H1.out.mono ?_
    rintro e w1 ⟨rfl, hr1, hm1⟩
    have HR1 := Lib.hid hr1
    have HM1 := Lib.hid hm1
    clear hr1 hm1 hrl hnr hmx
    go_wp2_with fail
    go_loopw [7, 11] (fun s7 s11 wr => ∃ (k : Nat) (ys : List Int) (lk : Bs) (A : Option Addr) (c m : Nat), s11 = .int .i64 (k : Int) ∧ s7 = .slice A m c ∧ Pre numD n r k ys lk ∧ Fil 3 1 64 intC w.heap.size wr (.slice A m c) m ys ∧ Rd w0 wr rb lk ∧ Mv w wr rb) (fun _ s11 _ => n - (intOf s11).toNat)
    case atStart => exact ⟨0, [], r, none, 0, 0, rfl, rfl, Pre.start _ _ _, Fil.start _ _ _ _ _ _, HR1.out, HM1.out⟩
    case round =>
      obtain ⟨k, ys, lk, A, c, m, rfl, rfl, hp, ho, hr, hm⟩ := hrel
      have hk := hp.2.1
      have HP := Lib.hid hp
      have HR := Lib.hid hr
      have HM := Lib.hid hm
      have hms := hm.size
      clear hp hr hm
      have HML : Hid (m ≤ 65) := Lib.hid (by have := ho.1; rw [List.length_take] at this; omega)
      by_cases hlt : k < n
      · cases hn : numD lk with
        | none =>
          have H2 := Lib.hid (onum_none HR.out hn)
          have HS : Hid (repD numD n r = none) := Lib.hid (HP.out.stop hlt hn)
          clear hn ho
          go_wp2_with fail
          refine H2.out.mono ?_
          rintro e w2 ⟨rfl, hm2⟩
          have HM2 := Lib.hid (HM.out.trans hm2)
          clear hm2
          go_wp2
          exact ⟨rfl, by rw [HL.out, HS.out]; exact ⟨rfl, HM2.out⟩⟩
        | some q =>
          obtain ⟨x, r2⟩ := q
          have H2 := Lib.hid (onum_some HR.out hn)
          have HPN := Lib.hid (HP.out.next hlt hn)
          have HX := Lib.hid hn
          have HO := Lib.hid ho
          clear hn ho
          go_wp2_with fail
          refine H2.out.mono ?_
          rintro e w2 ⟨rfl, hr2, hm2⟩
          have HR2 := Lib.hid hr2
          have HM2 := Lib.hid hm2
          have hms2 := hm2.size
          clear hr2 hm2
          have HO2 : Hid (Fil 3 1 64 intC w.heap.size w2 (.slice A m c) m ys) := Lib.hid (HO.out.mv HM2.out hrb)
          
          by_cases hll : m ≤ 64
          · have hle : ((m : Int) ≤ 64) := by omega
            obtain ⟨i0, hi, hz0, hz1, hz2⟩ := info_parts infoInt
            go_wp2_with (at_builtin; refine wpList_append_lies _ rfl _ _ _ rfl w.heap.size 3 i0 _ 1 8 Try.underlying52 hi hz0 hz1 hz2 rfl (by omega) (.slice A m c) m _ rfl (World.ownsRow.alloc HO2.out.2 _) ⟨w2.heap.size, 0, none⟩ 1 1 [.int .i64 x] rfl rfl (World.news_of_block (cs := #[.int .i64 x]) (t := 3) (fr := (0, 0)) (heap_alloc_new w2 _)) (by simp [Value.oneCell']) (by omega) (by unfold maxLen; omega) (by omega) (by first | omega | (simp; omega)) (w2.heap.size + 1) (by first | rfl | simp) ?_; intro g1 cap1 w4 hown1 hgr1 hat1 hlt1)
            have hgx : Gr w2 (.slice A m c) w4 (.slice (some ⟨g1, 0, none⟩) (m + 1) cap1) := ((Gr.refl _ _).alloc _).trans (Gr.of hgr1 (by simpa using hat1) rfl)
            have HGX := Lib.hid hgx
            have HOW := Lib.hid hown1
            have hrn : (Value.slice A m c).ownBlock ≠ some rb := fun e => by have := (HO2.out.2.lt rb e).1; omega
            have HRM : Hid (Rd w0 w4 rb r2 ∧ Mv w w4 rb) := Lib.hid ⟨HR2.out.gr hgx hrn (fun b e => Nat.le_trans hw0 (HO2.out.2.lt b e).1), (HM.out.trans HM2.out).gr hgx (fun b e => (HO2.out.2.lt b e).1)⟩
            have HNX : Hid (Fil 3 1 64 intC w.heap.size w4 (.slice (some ⟨g1, 0, none⟩) (m + 1) cap1) (m + 1) (ys ++ [x])) := Lib.hid (HO2.out.more hll HOW.out rfl)
            clear hown1 hgr1 hat1 hgx hrn hi
            go_wp2
            go_roundw
            case rel => exact ⟨k + 1, ys ++ [x], r2, some ⟨g1, 0, none⟩, cap1, m + 1, by go_num, rfl, HPN.out, HNX.out, HRM.out.1, HRM.out.2⟩
            case measure => simp [intOf]; omega
          · have hle : decide ((m : Int) ≤ 64) = false := by simp; omega
            have HNX : Hid (Fil 3 1 64 intC w.heap.size w2 (.slice A m c) m (ys ++ [x])) := Lib.hid (HO2.out.same hll)
            have HRM : Hid (Rd w0 w2 rb r2 ∧ Mv w w2 rb) := Lib.hid ⟨HR2.out, HM.out.trans HM2.out⟩
            go_wp2
            go_roundw
            case rel => exact ⟨k + 1, ys ++ [x], r2, A, c, m, by go_num, rfl, HPN.out, HNX.out, HRM.out.1, HRM.out.2⟩
            case measure => simp [intOf]; omega
      · obtain rfl : k = n := by omega
        have HD := Lib.hid HP.out.done
        have HO := Lib.hid ho
        clear ho
        go_wp2
        go_ret
        rw [HL.out, HD.out]
        exact ⟨_, rfl, HR.out, HM.out, el_fil HO.out (fun _ => rfl) (fun x hx g o hg hr => ⟨hg, by have := hr 0 (by omega); simpa [intC] using this, (repD_of num_codec _ _ _ _ HD.out).2.2 x hx⟩)⟩
end Go.Proofs.Ytlkaeonedijfpaa

namespace Go.Proofs.Ytlkaeonedijfpaa
open Go.RowKit C
theorem otext_some {w0 w : World} {rb : Nat} {l r : Bs} {s : ByteArray} (h : Rd w0 w rb l) (hd : textD l = some (s, r)) :
    Calls Try.prog 73 #[.pointer (some ⟨rb, 0, none⟩)] w fun e w' => e = .returned (.string s) ∧ Rd w0 w' rb r ∧ Mv w w' rb := by
  have := otext_gives w0 w rb l h
  rw [hd] at this; exact this
theorem otext_none {w0 w : World} {rb : Nat} {l : Bs} (h : Rd w0 w rb l) (hd : textD l = none) :
    Calls Try.prog 73 #[.pointer (some ⟨rb, 0, none⟩)] w fun e w' => e = PE ∧ Mv w w' rb := by
  have := otext_gives w0 w rb l h
  rw [hd] at this; exact this
theorem Rd.other {w0 w : World} {rb b j : Nat} {l : Bs} {v : Value} (h : Rd w0 w rb l) (hne : b ≠ rb) (hb : w0.heap.size ≤ b) : Rd w0 (w.setCell ⟨b, j, none⟩ v) rb l := by
  obtain ⟨A, cap, hbk, r⟩ := h.blk
  exact ⟨⟨A, cap, ((grown_set w b j v).block rb (Array.getElem?_eq_some_iff.1 hbk).1 (fun e => hne (by simpa using e.symm))).trans hbk, r⟩, h.bel.grown (grown_set w b j v) h.bel.size (fun k hk => by cases hk; exact hb), h.lb⟩
theorem Mv.other {w w1 : World} {rb b j : Nat} {v : Value} (h : Mv w w1 rb) (hb : w.heap.size ≤ b) : Mv w (w1.setCell ⟨b, j, none⟩ v) rb := grown_trans h (grown_set w1 b j v) fun k hk => by cases hk; exact .inr hb
theorem heapB (w : World) (o1 o2 : Obj) : ((w.alloc o1).alloc o2).heap[w.heap.size + 1]? = some o2 := by
  have h := heap_alloc_new (w.alloc o1) o2
  rw [World.size_alloc] at h; exact h
theorem infoGl2 : (Try.prog.info? 51).map (·.size) = some 2 := by kernel_rfl
theorem Mv.pre {w w' : World} {rb : Nat} {o : Obj} (h : Mv (w.alloc o) w' rb) : Mv w w' rb := (Mv.refl w rb |>.alloc o).trans h
set_option maxRecDepth 100000 in
set_option maxHeartbeats 4000000 in
theorem ogl_gives (w0 w : World) (rb : Nat) (l : Bs) (h : Rd w0 w rb l) :
    Calls Try.prog 61 #[.pointer (some ⟨rb, 0, none⟩)] w (Gives w0 w rb ((glD l).map fun q => (.agg #[.string q.1.name, .int .i64 q.1.kind], q.2))) := by
  have hA := h.alloc (.cells #[.string ⟨#[]⟩, .int .i64 0] 51)
  have hlt := h.lt
  have hw0 := h.bel.size
  have HX := Lib.hid (heap_alloc_new w (.cells #[.string ⟨#[]⟩, .int .i64 0] 51))
  obtain ⟨V, hV⟩ : ∃ V, w.alloc (.cells #[.string ⟨#[]⟩, .int .i64 0] 51) = V := ⟨_, rfl⟩
  have HV : Hid (∀ W, Mv V W rb → Mv w W rb) := Lib.hid (fun W hW => by rw [← hV] at hW; exact hW.pre)
  have hVS : Hid (w.heap.size < V.heap.size) := Lib.hid (by rw [← hV]; simp)
  rw [hV] at hA HX
  cases h1 : textD l with
  | none =>
    have H1 := Lib.hid (otext_none hA h1)
    have HC : Hid (glD l = none) := Lib.hid (by unfold glD; rw [h1])
    clear h hA h1
    go_enter Try.func61, Try.ntmps61
    go_wp2_with fail
    refine H1.out.mono ?_
    rintro e w1 ⟨rfl, hm1⟩
    have HM := Lib.hid (HV.out _ hm1)
    clear hm1
    go_wp2
    exact ⟨rfl, by rw [HC.out]; exact ⟨rfl, HM.out⟩⟩
  | some q =>
    obtain ⟨s, r⟩ := q
    have H1 := Lib.hid (otext_some hA h1)
    cases h2 : numD r with
    | none =>
      have HC : Hid (glD l = none) := Lib.hid (by unfold glD; rw [h1]; simp only; rw [h2])
      have HN := Lib.hid h2
      clear h hA h1 h2
      go_enter Try.func61, Try.ntmps61
      go_wp2_with fail
      refine H1.out.mono ?_
      rintro e w1 ⟨rfl, hr1, hm1⟩
      have H2 := Lib.hid (onum_none hr1 HN.out)
      have HM := Lib.hid hm1
      clear hr1 hm1
      go_wp2_with fail
      refine H2.out.mono ?_
      rintro e w2 ⟨rfl, hm2⟩
      have HM2 := Lib.hid (HV.out _ (HM.out.trans hm2))
      clear hm2
      go_wp2
      exact ⟨rfl, by rw [HC.out]; exact ⟨rfl, HM2.out⟩⟩
    | some q =>
      obtain ⟨n, r2⟩ := q
      have HC : Hid (glD l = some (⟨s, n⟩, r2)) := Lib.hid (by unfold glD; rw [h1]; simp only; rw [h2])
      have HN := Lib.hid h2
      clear h hA h1 h2
      go_enter Try.func61, Try.ntmps61
      go_wp2_with fail
      refine H1.out.mono ?_
      rintro e w1 ⟨rfl, hr1, hm1⟩
      have H2 := Lib.hid (onum_some hr1 HN.out)
      have HM := Lib.hid hm1
      clear hr1 hm1
      go_wp2_with fail
      refine H2.out.mono ?_
      rintro e w2 ⟨rfl, hr2, hm2⟩
      have HR2 := Lib.hid hr2
      have HM2 := Lib.hid (HM.out.trans hm2)
      have hb : w2.heap[w.heap.size]? = some (.cells #[.string ⟨#[]⟩, .int .i64 0] 51) := by
        rw [HM2.out.keep hVS.out (by omega)]; exact HX.out
      have hs2 := HM2.out.size
      have hvs := hVS.out
      have c0 : w2.cell? ⟨w.heap.size, 0, none⟩ = some (.string ⟨#[]⟩) := by simp [World.cell?, hb]
      have c1 : w2.cell? ⟨w.heap.size, 1, none⟩ = some (.int .i64 0) := by simp [World.cell?, hb]
      have z0 : w2.frozen? ⟨w.heap.size, 0, none⟩ = false := by simp [World.frozen?, hb]
      have z1 : w2.frozen? ⟨w.heap.size, 1, none⟩ = false := by simp [World.frozen?, hb]
      have HBK := Lib.hid hb
      clear hr2 hm2 hb
      go_wp2
      have hb := HBK.out
      refine bodyPost_ret (results_cell_row rfl _ _ w.heap.size 51 #[.string s, .int .i64 n] (0, 0) _ rfl (by simp [World.setCell, Array.getElem?_modify, hb]) Try.underlying51 rfl infoGl2) rfl ?_
      rw [HC.out]
      exact ⟨rfl, (HR2.out.other (by omega) hw0).other (by omega) hw0, ((HV.out _ HM2.out).other (Nat.le_refl _)).other (Nat.le_refl _)⟩
theorem ogl_some {w0 w : World} {rb : Nat} {l r : Bs} {g : Gl} (h : Rd w0 w rb l) (hd : glD l = some (g, r)) :
    Calls Try.prog 61 #[.pointer (some ⟨rb, 0, none⟩)] w fun e w' => e = .returned (.agg #[.string g.name, .int .i64 g.kind]) ∧ Rd w0 w' rb r ∧ Mv w w' rb := by
  have := ogl_gives w0 w rb l h
  rw [hd] at this; exact this
theorem ogl_none {w0 w : World} {rb : Nat} {l : Bs} (h : Rd w0 w rb l) (hd : glD l = none) :
    Calls Try.prog 61 #[.pointer (some ⟨rb, 0, none⟩)] w fun e w' => e = PE ∧ Mv w w' rb := by
  have := ogl_gives w0 w rb l h
  rw [hd] at this; exact this
set_option maxRecDepth 100000 in
set_option maxHeartbeats 8000000 in
theorem olgl_gives (w0 w : World) (rb : Nat) (l : Bs) (h : Rd w0 w rb l) :
    Calls Try.prog 60 #[.pointer (some ⟨rb, 0, none⟩), .int .i64 64, .func (.func 61) #[.pointer (some ⟨rb, 0, none⟩)] #[]] w (LGives w0 w rb 2 GlAt 65 (listD glD l)) := by
  cases hc : countD l with
  | none =>
    have H1 := Lib.hid (ocount_none h hc)
    have HL : Hid (listD glD l = none) := Lib.hid (by unfold listD; rw [hc])
    clear h hc
    go_enter Try.func60, Try.ntmps60
    go_wp2_with fail
    refine H1.out.mono ?_
    rintro e w1 ⟨rfl, hm1⟩
    have HM := Lib.hid hm1
    clear hm1
    go_wp2
    exact ⟨rfl, by rw [HL.out]; exact ⟨rfl, HM.out⟩⟩
  | some q =>
    obtain ⟨n, r⟩ := q
    have HL : Hid (listD glD l = repD glD n r) := Lib.hid (by unfold listD; rw [hc])
    have H1 := Lib.hid (ocount_some h hc)
    have hrb := h.lt
    have hw0 := h.bel.size
    obtain ⟨hrl, hnr⟩ := countD_len hc
    have hmx := h.max
    have hnm : n ≤ 9223372036854775807 := by omega
    clear h hc
    go_enter Try.func60, Try.ntmps60
    go_wp2_with fail
    refine H1.out.mono ?_
    rintro e w1 ⟨rfl, hr1, hm1⟩
    have HR1 := Lib.hid hr1
    have HM1 := Lib.hid hm1
    clear hr1 hm1 hrl hnr hmx
    go_wp2_with fail
    go_loopw [7, 11] (fun s7 s11 wr => ∃ (k : Nat) (ys : List Gl) (lk : Bs) (A : Option Addr) (c m : Nat), s11 = .int .i64 (k : Int) ∧ s7 = .slice A m c ∧ Pre glD n r k ys lk ∧ Fil 51 2 64 glC w.heap.size wr (.slice A m c) m ys ∧ Rd w0 wr rb lk ∧ Mv w wr rb) (fun _ s11 _ => n - (intOf s11).toNat)
    case atStart => exact ⟨0, [], r, none, 0, 0, rfl, rfl, Pre.start _ _ _, Fil.start _ _ _ _ _ _, HR1.out, HM1.out⟩
    case round =>
      obtain ⟨k, ys, lk, A, c, m, rfl, rfl, hp, ho, hr, hm⟩ := hrel
      have hk := hp.2.1
      have HP := Lib.hid hp
      have HR := Lib.hid hr
      have HM := Lib.hid hm
      have hms := hm.size
      clear hp hr hm
      have HML : Hid (m ≤ 65) := Lib.hid (by have := ho.1; rw [List.length_take] at this; omega)
      by_cases hlt : k < n
      · cases hn : glD lk with
        | none =>
          have H2 := Lib.hid (ogl_none HR.out hn)
          have HS : Hid (repD glD n r = none) := Lib.hid (HP.out.stop hlt hn)
          clear hn ho
          go_wp2_with fail
          refine H2.out.mono ?_
          rintro e w2 ⟨rfl, hm2⟩
          have HM2 := Lib.hid (HM.out.trans hm2)
          clear hm2
          go_wp2
          exact ⟨rfl, by rw [HL.out, HS.out]; exact ⟨rfl, HM2.out⟩⟩
        | some q =>
          obtain ⟨x, r2⟩ := q
          have H2 := Lib.hid (ogl_some HR.out hn)
          have HPN := Lib.hid (HP.out.next hlt hn)
          have HX := Lib.hid hn
          have HO := Lib.hid ho
          clear hn ho
          go_wp2_with fail
          refine H2.out.mono ?_
          rintro e w2 ⟨rfl, hr2, hm2⟩
          have HR2 := Lib.hid hr2
          have HM2 := Lib.hid hm2
          have hms2 := hm2.size
          clear hr2 hm2
          have HO2 : Hid (Fil 51 2 64 glC w.heap.size w2 (.slice A m c) m ys) := Lib.hid (HO.out.mv HM2.out hrb)
          
          by_cases hll : m ≤ 64
          · have hle : ((m : Int) ≤ 64) := by omega
            obtain ⟨i0, hi, hz0, hz1, hz2⟩ := info_parts infoGl
            go_wp2_with (at_builtin; refine wpList_append_lies _ rfl _ _ _ rfl w.heap.size 51 i0 _ 2 24 Try.underlying28 hi hz0 hz1 hz2 rfl (by omega) (.slice A m c) m _ rfl (World.ownsRow.alloc (World.ownsRow.alloc HO2.out.2 _) _) ⟨w2.heap.size + 1, 0, none⟩ 1 1 [.string x.name, .int .i64 x.kind] rfl rfl (World.news_of_block (cs := #[.string x.name, .int .i64 x.kind]) (t := 51) (fr := (0, 0)) (heapB w2 _ _)) (by simp [Value.oneCell']) (by omega) (by unfold maxLen; omega) (by omega) (by first | omega | (simp; omega)) (w2.heap.size + 1 + 1) (by first | rfl | simp) ?_; intro g1 cap1 w4 hown1 hgr1 hat1 hlt1)
            have hgx : Gr w2 (.slice A m c) w4 (.slice (some ⟨g1, 0, none⟩) (m + 1) cap1) := (((Gr.refl _ _).alloc _).alloc _).trans (Gr.of hgr1 (by simpa using hat1) rfl)
            have HGX := Lib.hid hgx
            have HOW := Lib.hid hown1
            have hrn : (Value.slice A m c).ownBlock ≠ some rb := fun e => by have := (HO2.out.2.lt rb e).1; omega
            have HRM : Hid (Rd w0 w4 rb r2 ∧ Mv w w4 rb) := Lib.hid ⟨HR2.out.gr hgx hrn (fun b e => Nat.le_trans hw0 (HO2.out.2.lt b e).1), (HM.out.trans HM2.out).gr hgx (fun b e => (HO2.out.2.lt b e).1)⟩
            have HNX : Hid (Fil 51 2 64 glC w.heap.size w4 (.slice (some ⟨g1, 0, none⟩) (m + 1) cap1) (m + 1) (ys ++ [x])) := Lib.hid (HO2.out.more hll HOW.out rfl)
            clear hown1 hgr1 hat1 hgx hrn hi
            go_wp2
            go_roundw
            case rel => exact ⟨k + 1, ys ++ [x], r2, some ⟨g1, 0, none⟩, cap1, m + 1, by go_num, rfl, HPN.out, HNX.out, HRM.out.1, HRM.out.2⟩
            case measure => simp [intOf]; omega
          · have hle : decide ((m : Int) ≤ 64) = false := by simp; omega
            have HNX : Hid (Fil 51 2 64 glC w.heap.size (w2.alloc (.cells #[.string x.name, .int .i64 x.kind] 51)) (.slice A m c) m (ys ++ [x])) := Lib.hid ((HO2.out.same hll).alloc _)
            have HRM : Hid (Rd w0 (w2.alloc (.cells #[.string x.name, .int .i64 x.kind] 51)) rb r2 ∧ Mv w (w2.alloc (.cells #[.string x.name, .int .i64 x.kind] 51)) rb) := Lib.hid ⟨HR2.out.alloc _, (HM.out.trans HM2.out).alloc _⟩
            go_wp2
            go_roundw
            case rel => exact ⟨k + 1, ys ++ [x], r2, A, c, m, by go_num, rfl, HPN.out, HNX.out, HRM.out.1, HRM.out.2⟩
            case measure => simp [intOf]; omega
      · obtain rfl : k = n := by omega
        have HD := Lib.hid HP.out.done
        have HO := Lib.hid ho
        clear ho
        go_wp2
        go_ret
        rw [HL.out, HD.out]
        exact ⟨_, rfl, HR.out, HM.out, el_fil HO.out (fun _ => rfl) (fun x hx g o hg hr => ⟨hg, by have := hr 0 (by omega); simpa using this, by have := hr 1 (by omega); simpa using this, by have := ((repD_of gl_codec _ _ _ _ HD.out).2.2 x hx).1.2; unfold maxLen; omega, ((repD_of gl_codec _ _ _ _ HD.out).2.2 x hx).2⟩)⟩
end Go.Proofs.Ytlkaeonedijfpaa

namespace Go.Proofs.Ytlkaeonedijfpaa
open Go.RowKit C
theorem el_filT {α : Type} {k lim : Nat} {R : World → α → Nat → Nat → Prop} {B : Nat} {w : World} {t : TypeId} {v : Value} {m : Nat} {ys : List α} {cl : α → List Value} (h : Fil t k lim cl B w v m ys) (hk : ∀ x, (cl x).length = k) (hR : ∀ x ∈ ys.take (lim + 1), ∀ g o, g < w.heap.size → (∀ r, r < k → w.cell? ⟨g, o + r, none⟩ = (cl x)[r]?) → R w x g o) : El k R B w none (ys.take (lim + 1)) v := by
  obtain ⟨h1, h2⟩ := h
  subst h1
  exact el_own hk h2 hR
/-- The rows of what is in a row. -/
def Els {α β : Type} (k lim : Nat) (R : World → α → Nat → Nat → Prop) (f : β → List α) (B : Nat) (w : World) (X : Value) (zs : List (β × Value)) : Prop := ∀ z ∈ zs.take (lim + 1), El k R B w X.ownBlock (f z.1) z.2
theorem Els.start {α β : Type} (k lim : Nat) (R : World → α → Nat → Nat → Prop) (f : β → List α) (B : Nat) (w : World) (X : Value) : Els k lim R f B w X ([] : List (β × Value)) := fun z hz => by simp at hz
theorem Els.mv {α β : Type} {k lim : Nat} {R : World → α → Nat → Nat → Prop} {f : β → List α} {B rb : Nat} {w w' : World} {X : Value} {zs : List (β × Value)} (h : Els k lim R f B w X zs) (hR : Loc R) (hm : Mv w w' rb) (hrb : rb < B) : Els k lim R f B w' X zs := fun z hz => (h z hz).mv hR hm hrb
theorem Els.alloc {α β : Type} {k lim : Nat} {R : World → α → Nat → Nat → Prop} {f : β → List α} {B : Nat} {w : World} {X : Value} {zs : List (β × Value)} (h : Els k lim R f B w X zs) (hR : Loc R) (o : Obj) : Els k lim R f B (w.alloc o) X zs := fun z hz => (h z hz).keep hR (fun g _ h2 h3 => ⟨heap_alloc_old w o h2, h3⟩) (by simp)
theorem Els.gr {α β : Type} {k lim : Nat} {R : World → α → Nat → Nat → Prop} {f : β → List α} {B : Nat} {w w' : World} {X X' : Value} {zs : List (β × Value)} (h : Els k lim R f B w X zs) (hR : Loc R) (hg : Gr w X w' X') : Els k lim R f B w' X' zs := fun z hz => (h z hz).keep hR (fun g _ h2 h3 => hg.keep h2 h3) hg.g.size
theorem Els.more {α β : Type} {k lim : Nat} {R : World → α → Nat → Nat → Prop} {f : β → List α} {B : Nat} {w : World} {X : Value} {zs : List (β × Value)} {x : β} {v : Value} (h : Els k lim R f B w X zs) (hx : El k R B w X.ownBlock (f x) v) : Els k lim R f B w X (zs ++ [(x, v)]) := by
  intro z hz
  by_cases hl : zs.length ≤ lim
  · have e1 : zs.take (lim + 1) = zs := List.take_of_length_le (by omega)
    rw [List.take_of_length_le (by rw [List.length_append]; simp; omega)] at hz
    rcases List.mem_append.1 hz with hz | hz
    · exact h z (by rw [e1]; exact hz)
    · obtain rfl : z = (x, v) := by simpa using hz
      exact hx
  · rw [List.take_append_of_le_length (by omega)] at hz
    exact h z hz
/-- A value of new memory beside a row. -/
theorem El.beside {α : Type} {k : Nat} {R : World → α → Nat → Nat → Prop} {B' : Nat} {w w0 : World} {X : Value} {l : List α} {v : Value} (h : El k R w0.heap.size w none l v) (hb : B' ≤ w0.heap.size) (hX : ∀ b, X.ownBlock = some b → b < w0.heap.size) : El k R B' w X.ownBlock l v := by
  obtain ⟨A, cap, hv, hc, hh⟩ := h
  refine ⟨A, cap, hv, hc, ?_⟩
  rcases hh with e | ⟨g, hA, h1, h2, h3, h4⟩
  · exact .inl e
  · exact .inr ⟨g, hA, by omega, h2, fun e => by have := hX g e; omega, h4⟩
theorem El.none' {α : Type} {k : Nat} {R : World → α → Nat → Nat → Prop} {B : Nat} {w : World} {X : Option Nat} {l : List α} {v : Value} (h : El k R B w X l v) : El k R B w none l v := by
  obtain ⟨A, cap, hv, hc, hh⟩ := h
  refine ⟨A, cap, hv, hc, ?_⟩
  rcases hh with e | ⟨g, hA, h1, h2, h3, h4⟩
  · exact .inl e
  · exact .inr ⟨g, hA, h1, h2, by simp, h4⟩
set_option maxRecDepth 100000 in
set_option maxHeartbeats 2000000 in
theorem oly_gives (w0 w : World) (rb : Nat) (l : Bs) (h : Rd w0 w rb l) :
    Calls Try.prog 63 #[.pointer (some ⟨rb, 0, none⟩)] w (LGives w0 w rb 1 IntAt 65 (lyD l)) := by
  have hmf : ∀ (fn : Fn) (first cap : Array Value) (w : World), (Instr.makeFunc fn first cap).run Try.prog w = .ok (.func fn first cap) w := fun _ _ _ _ => rfl
  have H1 := Lib.hid (olint_gives w0 w rb l h)
  clear h
  cases hd : lyD l with
  | none =>
    have hd2 : listD numD l = none := hd
    rw [hd2] at H1
    clear hd hd2
    go_enter Try.func63, Try.ntmps63
    go_wp2_with fail
    refine H1.out.mono ?_
    rintro e w1 ⟨rfl, hm1⟩
    have HM := Lib.hid hm1
    clear hm1
    go_wp2
    exact ⟨rfl, rfl, HM.out⟩
  | some q =>
    obtain ⟨x, r⟩ := q
    have hd2 : listD numD l = some (x, r) := hd
    rw [hd2] at H1
    clear hd hd2
    go_enter Try.func63, Try.ntmps63
    go_wp2_with fail
    refine H1.out.mono ?_
    rintro e w1 ⟨v, rfl, hr1, hm1, he1⟩
    have HR := Lib.hid hr1
    have HM := Lib.hid hm1
    have HE := Lib.hid he1
    clear hr1 hm1 he1
    go_wp2
    go_ret
    exact ⟨_, rfl, HR.out, HM.out, HE.out⟩
theorem oly_some {w0 w : World} {rb : Nat} {l r : Bs} {x : List Int} (h : Rd w0 w rb l) (hd : lyD l = some (x, r)) :
    Calls Try.prog 63 #[.pointer (some ⟨rb, 0, none⟩)] w fun e w' => ∃ v, e = .returned v ∧ Rd w0 w' rb r ∧ Mv w w' rb ∧ El 1 IntAt w.heap.size w' none (x.take 65) v := by
  have := oly_gives w0 w rb l h
  rw [hd] at this; exact this
theorem oly_none {w0 w : World} {rb : Nat} {l : Bs} (h : Rd w0 w rb l) (hd : lyD l = none) :
    Calls Try.prog 63 #[.pointer (some ⟨rb, 0, none⟩)] w fun e w' => e = PE ∧ Mv w w' rb := by
  have := oly_gives w0 w rb l h
  rw [hd] at this; exact this
set_option maxRecDepth 100000 in
set_option maxHeartbeats 8000000 in
theorem olly_gives (w0 w : World) (rb : Nat) (l : Bs) (h : Rd w0 w rb l) :
    Calls Try.prog 62 #[.pointer (some ⟨rb, 0, none⟩), .int .i64 32, .func (.func 63) #[.pointer (some ⟨rb, 0, none⟩)] #[]] w (LGives w0 w rb 1 (LyN w.heap.size) 33 (listD lyD l)) := by
  cases hc : countD l with
  | none =>
    have H1 := Lib.hid (ocount_none h hc)
    have HL : Hid (listD lyD l = none) := Lib.hid (by unfold listD; rw [hc])
    clear h hc
    go_enter Try.func62, Try.ntmps62
    go_wp2_with fail
    refine H1.out.mono ?_
    rintro e w1 ⟨rfl, hm1⟩
    have HM := Lib.hid hm1
    clear hm1
    go_wp2
    exact ⟨rfl, by rw [HL.out]; exact ⟨rfl, HM.out⟩⟩
  | some q =>
    obtain ⟨n, r⟩ := q
    have HL : Hid (listD lyD l = repD lyD n r) := Lib.hid (by unfold listD; rw [hc])
    have H1 := Lib.hid (ocount_some h hc)
    have hrb := h.lt
    have hw0 := h.bel.size
    obtain ⟨hrl, hnr⟩ := countD_len hc
    have hmx := h.max
    have hnm : n ≤ 9223372036854775807 := by omega
    clear h hc
    go_enter Try.func62, Try.ntmps62
    go_wp2_with fail
    refine H1.out.mono ?_
    rintro e w1 ⟨rfl, hr1, hm1⟩
    have HR1 := Lib.hid hr1
    have HM1 := Lib.hid hm1
    clear hr1 hm1 hrl hnr hmx
    go_wp2_with fail
    go_loopw [7, 11] (fun s7 s11 wr => ∃ (k : Nat) (ys : List (List Int)) (lk : Bs) (A : Option Addr) (c m : Nat), s11 = .int .i64 (k : Int) ∧ s7 = .slice A m c ∧ Pre lyD n r k ys lk ∧ (∃ zs : List ((List Int) × Value), zs.map (·.1) = ys ∧ Fil 52 1 32 lyC w.heap.size wr (.slice A m c) m zs ∧ Els 1 32 IntAt (fun x : List Int => x.take 65) w.heap.size wr (.slice A m c) zs) ∧ Rd w0 wr rb lk ∧ Mv w wr rb) (fun _ s11 _ => n - (intOf s11).toNat)
    case atStart => exact ⟨0, [], r, none, 0, 0, rfl, rfl, Pre.start _ _ _, ⟨[], rfl, Fil.start _ _ _ _ _ _, Els.start _ _ _ _ _ _ _⟩, HR1.out, HM1.out⟩
    case round =>
      obtain ⟨k, ys, lk, A, c, m, rfl, rfl, hp, ho, hr, hm⟩ := hrel
      have hk := hp.2.1
      have HP := Lib.hid hp
      have HR := Lib.hid hr
      have HM := Lib.hid hm
      have hms := hm.size
      clear hp hr hm
      obtain ⟨zs, hz, ho, he⟩ := ho
      have HML : Hid (m ≤ 33) := Lib.hid (by have := ho.1; rw [List.length_take] at this; omega)
      have HZ := Lib.hid hz
      have HEE := Lib.hid he
      clear hz he
      by_cases hlt : k < n
      · cases hn : lyD lk with
        | none =>
          have H2 := Lib.hid (oly_none HR.out hn)
          have HS : Hid (repD lyD n r = none) := Lib.hid (HP.out.stop hlt hn)
          clear hn ho
          go_wp2_with fail
          refine H2.out.mono ?_
          rintro e w2 ⟨rfl, hm2⟩
          have HM2 := Lib.hid (HM.out.trans hm2)
          clear hm2
          go_wp2
          exact ⟨rfl, by rw [HL.out, HS.out]; exact ⟨rfl, HM2.out⟩⟩
        | some q =>
          obtain ⟨x, r2⟩ := q
          have H2 := Lib.hid (oly_some HR.out hn)
          have HPN := Lib.hid (HP.out.next hlt hn)
          have HX := Lib.hid hn
          have HO := Lib.hid ho
          clear hn ho
          go_wp2_with fail
          refine H2.out.mono ?_
          rintro e w2 ⟨vx, rfl, hr2, hm2, hex⟩
          have HR2 := Lib.hid hr2
          have HM2 := Lib.hid hm2
          have hms2 := hm2.size
          clear hr2 hm2
          have HO2 : Hid (Fil 52 1 32 lyC w.heap.size w2 (.slice A m c) m zs) := Lib.hid (HO.out.mv HM2.out hrb)
          obtain ⟨lx, hlx⟩ : ∃ lx, (x.take 65).length = lx := ⟨_, rfl⟩
          have hex2 := hex
          obtain ⟨Ax, cx, hvx, _⟩ := hex2
          rw [hlx] at hvx
          subst hvx
          have HEX := Lib.hid hex
          clear hex hlx
          have HE2 : Hid (Els 1 32 IntAt (fun x : List Int => x.take 65) w.heap.size w2 (.slice A m c) (zs ++ [(x, .slice Ax lx cx)])) := Lib.hid ((HEE.out.mv loc_int HM2.out hrb).more (El.beside (B' := w.heap.size) HEX.out hms (fun b e => by have := (HO.out.2.lt b e).2; exact this)))
          by_cases hll : m ≤ 32
          · have hle : ((m : Int) ≤ 32) := by omega
            obtain ⟨i0, hi, hz0, hz1, hz2⟩ := info_parts infoLy
            go_wp2_with (at_builtin; refine wpList_append_lies _ rfl _ _ _ rfl w.heap.size 52 i0 _ 1 24 Try.underlying29 hi hz0 hz1 hz2 rfl (by omega) (.slice A m c) m _ rfl (World.ownsRow.alloc HO2.out.2 _) ⟨w2.heap.size, 0, none⟩ 1 1 [.slice Ax lx cx] rfl rfl (World.news_of_block (cs := #[.slice Ax lx cx]) (t := 52) (fr := (0, 0)) (heap_alloc_new w2 _)) (by simp [Value.oneCell']) (by omega) (by unfold maxLen; omega) (by omega) (by first | omega | (simp; omega)) (w2.heap.size + 1) (by first | rfl | simp) ?_; intro g1 cap1 w4 hown1 hgr1 hat1 hlt1)
            have hgx : Gr w2 (.slice A m c) w4 (.slice (some ⟨g1, 0, none⟩) (m + 1) cap1) := ((Gr.refl _ _).alloc _).trans (Gr.of hgr1 (by simpa using hat1) rfl)
            have HGX := Lib.hid hgx
            have HOW := Lib.hid hown1
            have hrn : (Value.slice A m c).ownBlock ≠ some rb := fun e => by have := (HO2.out.2.lt rb e).1; omega
            have HRM : Hid (Rd w0 w4 rb r2 ∧ Mv w w4 rb) := Lib.hid ⟨HR2.out.gr hgx hrn (fun b e => Nat.le_trans hw0 (HO2.out.2.lt b e).1), (HM.out.trans HM2.out).gr hgx (fun b e => (HO2.out.2.lt b e).1)⟩
            have HNX : Hid (∃ zs : List ((List Int) × Value), zs.map (·.1) = ys ++ [x] ∧ Fil 52 1 32 lyC w.heap.size w4 (.slice (some ⟨g1, 0, none⟩) (m + 1) cap1) (m + 1) zs ∧ Els 1 32 IntAt (fun x : List Int => x.take 65) w.heap.size w4 (.slice (some ⟨g1, 0, none⟩) (m + 1) cap1) zs) := Lib.hid (⟨zs ++ [(x, .slice Ax lx cx)], by rw [List.map_append, HZ.out]; rfl, HO2.out.more hll HOW.out rfl, HE2.out.gr loc_int hgx⟩)
            clear hown1 hgr1 hat1 hgx hrn hi
            go_wp2
            go_roundw
            case rel => exact ⟨k + 1, ys ++ [x], r2, some ⟨g1, 0, none⟩, cap1, m + 1, by go_num, rfl, HPN.out, HNX.out, HRM.out.1, HRM.out.2⟩
            case measure => simp [intOf]; omega
          · have hle : decide ((m : Int) ≤ 32) = false := by simp; omega
            have HNX : Hid (∃ zs : List ((List Int) × Value), zs.map (·.1) = ys ++ [x] ∧ Fil 52 1 32 lyC w.heap.size w2 (.slice A m c) m zs ∧ Els 1 32 IntAt (fun x : List Int => x.take 65) w.heap.size w2 (.slice A m c) zs) := Lib.hid (⟨zs ++ [(x, .slice Ax lx cx)], by rw [List.map_append, HZ.out]; rfl, HO2.out.same hll, HE2.out⟩)
            have HRM : Hid (Rd w0 w2 rb r2 ∧ Mv w w2 rb) := Lib.hid ⟨HR2.out, HM.out.trans HM2.out⟩
            go_wp2
            go_roundw
            case rel => exact ⟨k + 1, ys ++ [x], r2, A, c, m, by go_num, rfl, HPN.out, HNX.out, HRM.out.1, HRM.out.2⟩
            case measure => simp [intOf]; omega
      · obtain rfl : k = n := by omega
        have HD := Lib.hid HP.out.done
        have HO := Lib.hid ho
        clear ho
        go_wp2
        go_ret
        rw [HL.out, HD.out]
        exact ⟨_, rfl, HR.out, HM.out, by
          have h1 := el_filT (R := fun V (z : List Int × Value) g o => LyN w.heap.size V z.1 g o) HO.out (fun _ => rfl) (fun z hz g o hg hr => ⟨hg, z.2, by have := hr 0 (by omega); simpa using this, (HEE.out z hz).none'⟩)
          have h2 := h1.imp (S := LyN w.heap.size) (fun z : List Int × Value => z.1) (fun _ _ _ _ h => h)
          rw [List.map_take, HZ.out] at h2
          exact h2⟩
end Go.Proofs.Ytlkaeonedijfpaa
