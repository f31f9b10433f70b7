/-
  The walk of read.
-/
import Derived.Test.YtaalgkcbknlccaaDoorW12
import Derived.Deep.AppendLies
namespace Go.Proofs.YtaalgkcbknlccaaDoor
open Go.RowKit M

theorem info33 : (Tryd.prog.info? 33).map (fun i => (i.zero, i.size, i.bytes)) = some (some (.agg #[.int .i64 0, .string ⟨#[]⟩, .int .i64 0]), 3, 32) := by kernel_rfl

/-- A token's cells; those of a list. -/
def cell1 (t : Tok) : List Value := [.int .i64 (t.k : Int), .string ⟨t.t.toArray⟩, .int .i64 (t.a : Int)]
def cells (l : List Tok) : List Value := l.flatMap cell1
theorem cells_snoc (l : List Tok) (t : Tok) : cells (l ++ [t]) = cells l ++ cell1 t := by simp [cells]

theorem ext_mk (s : ByteArray) (a n : Nat) : s.extract a (a + n) = ⟨((s.data.toList.drop a).take n).toArray⟩ :=
  Go.WideShapes.bytes_inj (by rw [ext_list])

/-- What read leaves: the tokens in memory of its own. -/
def Reads (w : World) (l : List Tok) (a err : Nat) (e : Ending) (w' : World) : Prop :=
  ∃ A cap, e = .returned (.tuple #[.slice A l.length cap, .int .i64 (a : Int), .int .i64 (err : Int)]) ∧ w'.ownsRow w.heap.size 33 3 (.slice A l.length cap) l.length (cells l) ∧ Below w.heap.size w w'

set_option maxRecDepth 100000 in
set_option maxHeartbeats 1000000 in
theorem read_long (s : ByteArray) (w : World) (hs : 20000 < s.size) (hm : s.size ≤ maxLen) :
    Calls Tryd.prog 22 #[.string s] w (Reads w [] 0 3) := by
  unfold maxLen at hm
  have h1 : (20000 : Int) < (s.size : Int) := by omega
  have h2 : decide ((20000 : Int) < (s.size : Int)) = true := by simp; omega
  go_enter Tryd.func22, Tryd.ntmps22
  go_wp2
  go_ret3
  exact ⟨none, 0, rfl, World.ownsRow_nil _ _ _ _, Below.refl _ _⟩

/-- What holds at a round's head, C the scanner's block. -/
def RInv (w : World) (C : Nat) (s : ByteArray) (acc : List Tok) (m : Nat) (ins : Bool) (A : Option Addr) (cap : Nat) (wr : World) : Prop :=
  Sc wr C s m ins ∧ m ≤ s.size ∧ acc.length ≤ m ∧ wr.ownsRow (C + 1) 33 3 (.slice A acc.length cap) acc.length (cells acc) ∧ Below C w wr ∧ Glob wr ∧
  (acc ++ (toks (s.data.toList.drop m) m ins).1, (toks (s.data.toList.drop m) m ins).2) = scanAll s.data.toList

theorem own_ne {w : World} {C n : Nat} {v : Value} {xs : List Value} (h : w.ownsRow (C + 1) 33 3 v n xs) : v.ownBlock ≠ some C := by
  intro e
  have := h.lt C e
  omega
theorem own_base {w : World} {C n : Nat} {v : Value} {xs : List Value} (h : w.ownsRow (C + 1) 33 3 v n xs) : w.ownsRow C 33 3 v n xs := by
  obtain ⟨h1, h2⟩ := h
  refine ⟨h1, ?_⟩
  rcases h2 with h2 | ⟨g, c, cur, hv, hb, r⟩
  · exact .inl h2
  · exact .inr ⟨g, c, cur, hv, by omega, r⟩
theorem own_drewN {w : World} {base e size n : Nat} {v : Value} {xs : List Value} (h : w.ownsRow base e size v n xs) (k : Nat) : (w.drewN k).ownsRow base e size v n xs := h
theorem below_draws (B : Nat) (w : World) (n : Nat) : Below B w (w.drewN n) := ⟨rfl, rfl, rfl, Nat.le_refl _, fun _ _ => rfl⟩
theorem RInv.only {w w1 w2 : World} {C : Nat} {s : ByteArray} {acc : List Tok} {m m' cap : Nat} {ins ins' : Bool} {A : Option Addr} (h : RInv w C s acc m ins A cap w1) (hC : 2 < C) (g : w1.grownBy w2 (some C)) (hsc : Sc w2 C s m' ins') (hm : m ≤ m') (hm2 : m' ≤ s.size)
    (ht : (acc ++ (toks (s.data.toList.drop m') m' ins').1, (toks (s.data.toList.drop m') m' ins').2) = scanAll s.data.toList) : RInv w C s acc m' ins' A cap w2 := by
  obtain ⟨h1, h2, h3, h4, h5, h6, h7⟩ := h
  exact ⟨hsc, hm2, by omega, h4.kept g (.inr (own_ne h4)), h5.grown g (by have := h1.lt; omega) (fun k hk => by cases hk; omega), h6.keep g hC, ht⟩

/-- The bytes that more skips. -/
theorem toks_more (s : ByteArray) (m : Nat) (ins : Bool) : toks (s.data.toList.drop m) m ins = toks (s.data.toList.drop (m + spn (sep ins) (s.data.toList.drop m))) (m + spn (sep ins) (s.data.toList.drop m)) ins := by
  rw [toks_skip _ _ _ _ (Nat.le_refl _), List.drop_drop]
theorem sep_stop (s : ByteArray) (m : Nat) (ins : Bool) (h : m + spn (sep ins) (s.data.toList.drop m) < s.size) : sep ins (s[m + spn (sep ins) (s.data.toList.drop m)]).toNat = false := by
  have h1 := spn_step (sep ins) (s.data.toList.drop m) _ (Nat.le_refl _)
  rw [List.drop_drop, drop_at s _ h, spn_cons] at h1
  cases hq : sep ins (s[m + spn (sep ins) (s.data.toList.drop m)]).toNat with
  | false => rfl
  | true => rw [hq, if_pos rfl] at h1; omega

/-- What next does to the invariant: nothing yet to the list. -/
structure Step (s : ByteArray) (m : Nat) (ins : Bool) (k n : Nat) (ins' : Bool) (t : Bs) : Prop where
  pos : 1 ≤ n
  le : m + n ≤ s.size
  eq : toks (s.data.toList.drop m) m ins = (⟨k, t, m⟩ :: (toks (s.data.toList.drop (m + n)) (m + n) ins').1, (toks (s.data.toList.drop (m + n)) (m + n) ins').2)

theorem RInv.push {w w2 w4 : World} {C : Nat} {s : ByteArray} {acc : List Tok} {m n k cap g cap' : Nat} {ins ins' : Bool} {A : Option Addr} {t : Bs} {o1 o2 : Obj} (st : Step s m ins k n ins' t)
    (hinv : (wz : World) → wz = w2 → wz.ownsRow (C + 1) 33 3 (.slice A acc.length cap) acc.length (cells acc) ∧ Sc wz C s (m + n) ins' ∧ Below C w wz ∧ Glob wz) (hC : 2 < C) (hacc : acc.length ≤ m)
    (ht : (acc ++ (toks (s.data.toList.drop m) m ins).1, (toks (s.data.toList.drop m) m ins).2) = scanAll s.data.toList)
    (hown : w4.ownsRow (C + 1) 33 3 (.slice (some ⟨g, 0, none⟩) (acc.length + 1) cap') (acc.length + 1) (cells acc ++ cell1 ⟨k, t, m⟩))
    (hgr : ((w2.alloc o1).alloc o2).grownBy w4 (Value.slice A acc.length cap).ownBlock) : RInv w C s (acc ++ [⟨k, t, m⟩]) (m + n) ins' (some ⟨g, 0, none⟩) cap' w4 := by
  obtain ⟨h1, h2, h3, h4⟩ := hinv _ rfl
  have hl := h2.lt
  have hz : ((w2.alloc o1).alloc o2).heap.size = w2.heap.size + 1 + 1 := by simp
  have hne := own_ne h1
  have hg2 : ∀ q, (Value.slice A acc.length cap).ownBlock = some q → C < q := fun q hq => by have := h1.lt q hq; omega
  refine ⟨((h2.alloc o1).alloc o2).grown hgr (fun e => hne e.symm), st.le, by rw [List.length_append]; have := st.pos; simp; omega, ?_, ((h3.alloc (by omega) o1).alloc (by simp; omega) o2).grown hgr (by omega) (fun q hq => by have := hg2 q hq; omega), ?_, ?_⟩
  · rw [List.length_append, cells_snoc]; exact hown
  · obtain ⟨⟨te, pe, q1⟩, q2, q3⟩ := h4
    have a1 : ∀ b o, b < 3 → w4.cell? ⟨b, o, none⟩ = w2.cell? ⟨b, o, none⟩ := fun b o hb => by
      rw [hgr.cell_far ⟨b, o, none⟩ (by show b < _; omega) (by intro e; have := hg2 b e.symm; omega), World.cell?_alloc_lt _ _ _ (by show b < _; simp; omega), World.cell?_alloc_lt _ _ _ (by show b < _; omega)]
    exact ⟨⟨te, pe, (a1 2 0 (by omega)).trans q1⟩, fun i hi => (a1 0 i (by omega)).trans (q2 i hi), by have := hgr.size; omega⟩
  · rw [← ht, st.eq]; simp

theorem next_case {C a : Nat} {s : ByteArray} {ins : Bool} {w : World} (h : Sc w C s a ins) (hs : s.size ≤ 20000) (ha : a < s.size) (hG : Glob w) (hC2 : 2 < C) (hsep : sep ins s[a].toNat = false) :
    (∃ k n ins' t, Step s a ins k n ins' t ∧ Calls Tryd.prog 31 #[.pointer (some ⟨C, 0, none⟩)] w (Ends w C s k ⟨t.toArray⟩ a 0 (a + n) ins')) ∨
    (∃ err : Nat, err ≠ 0 ∧ toks (s.data.toList.drop a) a ins = ([], a, err) ∧ Calls Tryd.prog 31 #[.pointer (some ⟨C, 0, none⟩)] w (Ends w C s 0 ⟨#[]⟩ 0 err a ins)) := by
  have hr := drop_at s a ha
  by_cases h10 : s[a].toNat = 10
  · refine .inl ⟨4, 1, false, [59], ⟨Nat.le_refl _, by omega, ?_⟩, next_nl h hs ha hG hC2 h10⟩
    rw [hr, toks_feed hsep h10]
  · by_cases he : (nx (s.data.toList.drop a)).2.2 = 0
    · have hb := nx_bd _ he
      obtain ⟨k, n, hx⟩ : ∃ k n, nx (s.data.toList.drop a) = (k, n, 0) := ⟨_, _, by rw [← he]⟩
      rw [hx] at hb
      have hc := next_ok h hs ha hG hC2 h10 hx
      rw [ext_mk] at hc
      refine .inl ⟨k, n, _, _, ⟨hb.1, by have := hb.2; simp at this; omega, ?_⟩, hc⟩
      have hx2 := hx
      rw [hr] at hx2
      have := toks_tok (a := a) hsep h10 hx2
      rw [← hr, List.drop_drop] at this
      exact this
    · refine .inr ⟨_, he, ?_, next_err h hs ha hG hC2 h10 he⟩
      have := toks_err (a := a) hsep h10 (by rw [← hr]; exact he)
      rw [← hr] at this
      exact this

set_option maxRecDepth 100000 in
set_option maxHeartbeats 1000000 in
theorem read_short (s : ByteArray) (w : World) (hs : s.size ≤ 20000) (hG : Glob w) :
    Calls Tryd.prog 22 #[.string s] w (Reads w (scanAll s.data.toList).1 (scanAll s.data.toList).2.1 (scanAll s.data.toList).2.2) := by
  obtain ⟨i0, hi, hz0, hz1, hz2⟩ := info_parts info33
  have h1 : decide ((20000 : Int) < (s.size : Int)) = false := by simp; omega
  have HG := Lib.hid hG
  have hC : 2 < w.heap.size := hG.2.2
  have H0 : Hid (RInv w w.heap.size s [] 0 false none 0 (w.alloc (.cells #[.string s, .int .i64 0, .bool false] 52))) :=
    ⟨heap_alloc_new w _, Nat.zero_le _, Nat.le_refl _, World.ownsRow_nil _ _ _ _, (Below.refl _ _).alloc (Nat.le_refl _) _, hG.keep (World.grownBy_alloc w _ (some w.heap.size)) hC, rfl⟩
  clear hG
  go_enter Tryd.func22, Tryd.ntmps22
  go_wp2
  go_loopw [5] (fun v wr => ∃ acc m ins A cap, v = .slice A acc.length cap ∧ RInv w w.heap.size s acc m ins A cap wr) (fun _ wr => s.size - (intOf ((wr.cell? ⟨w.heap.size, 1, none⟩).getD .nilIface)).toNat)
  case atStart => exact ⟨[], 0, false, none, 0, rfl, H0.out⟩
  case round =>
    obtain ⟨acc, m, ins, A, cap, rfl, hr⟩ := hrel
    have hl := hr.2.1
    have hm0 := hr.1.cells.2.1
    have HR := Lib.hid hr
    clear hr H0
    go_wp2_with fail
    refine (more_any w.heap.size m s ins _ HR.out.1 hs hl).mono ?_
    rintro e w1 ⟨rfl, hsc1, hg1⟩
    have hsp : m + spn (sep ins) (s.data.toList.drop m) ≤ s.size := by have := spn_le (sep ins) (s.data.toList.drop m); simp at this; omega
    have HR1 := Lib.hid (HR.out.only hC hg1 hsc1 (by omega) hsp (by rw [← toks_more]; exact HR.out.2.2.2.2.2.2))
    have HST := sep_stop s m ins
    have hmm : m ≤ m + spn (sep ins) (s.data.toList.drop m) := by omega
    generalize m + spn (sep ins) (s.data.toList.drop m) = m1 at *
    clear hsc1 hg1
    by_cases hlt : m1 < s.size
    · have hd : decide (m1 < s.size) = true := by simpa using hlt
      rcases next_case HR1.out.1 hs hlt HR1.out.2.2.2.2.2.1 hC (HST hlt) with ⟨k, n, ins', t, st, hcall⟩ | ⟨err, herr, htk, hcall⟩
      · have HC := Lib.hid hcall
        have ST := Lib.hid st
        clear hcall st HST
        go_wp2_with fail
        refine HC.out.mono ?_
        rintro e w2 ⟨rfl, h2, g2⟩
        have hl2 := h2.lt
        have hal : acc.length ≤ m1 := HR1.out.2.2.1
        have H2 : Hid (w2.ownsRow (w.heap.size + 1) 33 3 (.slice A acc.length cap) acc.length (cells acc) ∧ Sc w2 w.heap.size s (m1 + n) ins' ∧ Below w.heap.size w w2 ∧ Glob w2) :=
          ⟨HR1.out.2.2.2.1.kept g2 (.inr (own_ne HR1.out.2.2.2.1)), h2, HR1.out.2.2.2.2.1.grown g2 (by have := HR1.out.1.lt; omega) (fun k hk => by cases hk; omega), HR1.out.2.2.2.2.2.1.keep g2 hC⟩
        clear h2 g2
        go_wp2_with (at_builtin; refine wpList_append_lies _ rfl _ _ _ rfl (w.heap.size + 1) 33 i0 _ 3 32 Tryd.underlying23 hi hz0 hz1 hz2 rfl (by omega) (.slice A acc.length cap) acc.length (cells acc) rfl ((H2.out.1.alloc _).alloc _) ⟨w2.heap.size + 1, 0, none⟩ 1 1 (cell1 ⟨k, t, m1⟩) rfl rfl (World.news_of_block (cs := #[.int .i64 (k : Int), .string ⟨t.toArray⟩, .int .i64 (m1 : Int)]) (t := 33) (fr := (0, 0)) (heap_alloc2_new w2 _ _)) (by simp [Value.oneCell', cell1]) (by omega) (by unfold maxLen; omega) (by omega) (by simp; omega) (w2.heap.size + 2) (by simp) ?_; intro g1 cap1 w4 hown1 hgrow1 hat1 hlt1)
        have R := Lib.hid (RInv.push ST.out (fun wz hz => by rw [hz]; exact H2.out) hC hal HR1.out.2.2.2.2.2.2 hown1 hgrow1)
        clear hown1 hgrow1 hat1
        go_roundw
        case rel => exact ⟨acc ++ [⟨k, t, m1⟩], m1 + n, ins', some ⟨g1, 0, none⟩, cap1, by rw [List.length_append]; rfl, R.out⟩
        case measure =>
          rw [R.out.1.cells.2.1, hm0]
          have := ST.out.pos
          have := ST.out.le
          simp [intOf]; omega
      · have HE : ((err : Int) != 0) = true := by simp; omega
        have HC := Lib.hid hcall
        have HT := Lib.hid htk
        clear hcall htk HST herr
        go_wp2_with fail
        refine HC.out.mono ?_
        rintro e w2 ⟨rfl, h2, g2⟩
        obtain ⟨c0, c1, c2, f0, f1, f2, hlt2⟩ := h2.cells
        have H2 := Lib.hid (HR1.out.only hC g2 h2 (Nat.le_refl _) hsp HR1.out.2.2.2.2.2.2)
        clear h2 g2
        go_wp2_with fail
        go_quiet (fail)
        go_wp2
        go_ret3
        have e := HR1.out.2.2.2.2.2.2
        rw [HT.out, List.append_nil] at e
        rw [← e]
        exact ⟨A, cap, rfl, own_drewN (own_base (H2.out.2.2.2.1.alloc _)) nq, (H2.out.2.2.2.2.1.alloc (by omega) _).trans (below_draws _ _ _)⟩
    · have hd : decide (m1 < s.size) = false := by simpa using hlt
      clear HST
      go_wp2
      go_ret3
      obtain rfl : m1 = s.size := by omega
      have e := HR1.out.2.2.2.2.2.2
      rw [List.drop_of_length_le (by simp), toks_nil, List.append_nil] at e
      rw [← e]
      exact ⟨A, cap, rfl, own_base HR1.out.2.2.2.1, HR1.out.2.2.2.2.1⟩
end Go.Proofs.YtaalgkcbknlccaaDoor
