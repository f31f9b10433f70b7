/-
  The walk of the law ScanJoin.
-/
import Derived.Test.YtaalgkcbknlccaaDoorL8
import Derived.Laws.AppendOwnNone
namespace Go.Proofs.YtaalgkcbknlccaaDoor
open Go.RowKit M

/-- A token that came in: whatever its kind and place. -/
abbrev ATok := Int × ByteArray × Int
def acell1 (t : ATok) : List Value := [.int .i64 t.1, .string t.2.1, .int .i64 t.2.2]
def acells (l : List ATok) : List Value := l.flatMap acell1
def atexts (l : List ATok) : List ByteArray := l.map (·.2.1)
theorem acells_length (l : List ATok) : (acells l).length = l.length * 3 := by
  induction l with
  | nil => rfl
  | cons t l ih => simp [acells, acell1] at *; omega
theorem acells_get (l : List ATok) (i : Nat) (h : i < l.length) :
    (acells l)[i * 3]? = some (.int .i64 l[i].1) ∧ (acells l)[i * 3 + 1]? = some (.string l[i].2.1) ∧ (acells l)[i * 3 + 2]? = some (.int .i64 l[i].2.2) := by
  induction l generalizing i with
  | nil => simp at h
  | cons t l ih =>
    have e : acells (t :: l) = .int .i64 t.1 :: .string t.2.1 :: .int .i64 t.2.2 :: acells l := by simp [acells, acell1]
    rw [e]
    cases i with
    | zero => simp
    | succ i =>
      have := ih i (by simpa using h)
      have e2 : (i + 1) * 3 = i * 3 + 3 := by omega
      rw [e2]
      simpa using this
theorem acells_one (l : List ATok) : ∀ u ∈ acells l, u.oneCell' = true := by
  intro u hu
  simp only [acells, acell1, List.mem_flatMap, List.mem_cons, List.not_mem_nil, or_false] at hu
  obtain ⟨t, _, rfl | rfl | rfl⟩ := hu <;> rfl

def ArgL (w : World) (g off : Nat) (l : List ATok) : Prop := ∀ j u, (acells l)[j]? = some u → w.cell? ⟨g, off + j, none⟩ = some u
theorem ArgL.texts {w : World} {g off : Nat} {l : List ATok} (h : ArgL w g off l) : Texts w g off (atexts l) := by
  intro i hi
  have hi2 : i < l.length := by simpa [atexts] using hi
  obtain ⟨a, b, c⟩ := acells_get l i hi2
  refine ⟨l[i].1, l[i].2.2, h _ _ a, ?_, ?_⟩
  · have := h _ _ b
    simp only [atexts, List.getElem_map]
    rw [Nat.add_assoc]; exact this
  · have := h _ _ c
    rw [Nat.add_assoc]; exact this
theorem ArgL.below {w w' : World} {B g off : Nat} {l : List ATok} (h : ArgL w g off l) (hb : Below B w w') (hg : g < B) : ArgL w' g off l :=
  fun j u hu => (hb.cell (p := ⟨g, off + j, none⟩) hg).trans (h j u hu)
theorem ArgL.add {w : World} {g off : Nat} {l : List ATok} (h : ArgL w g off l) : ∀ j u, (acells l)[j]? = some u → w.cell? ((⟨g, off, none⟩ : Addr).add j) = some u := by
  intro j u hu
  have : (⟨g, off, none⟩ : Addr).add j = ⟨g, off + j, none⟩ := by unfold Addr.add; split <;> simp_all
  rw [this]; exact h j u hu
theorem argl_own {w : World} {base g n cap : Nat} {l : List ATok} (h : w.ownsRow base 33 3 (.slice (some ⟨g, 0, none⟩) n cap) n (acells l)) : ArgL w g 0 l := by
  intro j u hu
  have hc := h.cells (g := g) rfl j u hu
  have : (⟨g, 0, none⟩ : Addr).add j = ⟨g, j, none⟩ := by unfold Addr.add; split <;> simp_all
  rw [this] at hc
  rw [Nat.zero_add]; exact hc

/-- Texts of tokens that the scanner laid. -/
def ttexts (L : List Tok) : List ByteArray := L.map fun t => ⟨t.t.toArray⟩
theorem ttexts_bytes (L : List Tok) : (ttexts L).map (·.data.toList) = L.map (·.t) := by simp [ttexts]
theorem ttexts_total (L : List Tok) : total (ttexts L) = ((L.map (·.t)).map (·.length)).sum := by
  unfold total ttexts
  rw [List.map_map, List.map_map]
  rfl
theorem lies_texts {w : World} {g : Nat} {L : List Tok} (h : Lies w g L) : Texts w g 0 (ttexts L) := by
  intro i hi
  have hi2 : i < L.length := by simpa [ttexts] using hi
  obtain ⟨a, b, c⟩ := h i hi2
  refine ⟨L[i].k, L[i].a, by rw [Nat.zero_add]; exact a, ?_, by rw [Nat.zero_add]; exact c⟩
  simp only [ttexts, List.getElem_map]
  rw [Nat.zero_add]; exact b

/-- Join, at a row of the scanner's. -/
theorem join_rd (A : Option Addr) (cap : Nat) (L : List Tok) (w : World) (h : Rd w A L) (hl : L.length ≤ 300) (ht : ((L.map (·.t)).map (·.length)).sum ≤ 300) {s : ByteArray} (hs : s = ⟨(joinL (L.map (·.t))).toArray⟩) :
    Calls Tryd.prog 19 #[.slice A L.length cap] w fun e w' => e = .returned (.string s) ∧ Below w.heap.size w w' := by
  subst hs
  rcases h with h | ⟨g, rfl, h, hlt⟩
  · subst h; exact join_none A cap w
  · have := join_some g 0 cap (ttexts L) w hlt (lies_texts h) (by simp [ttexts]; omega) (by rw [ttexts_total]; omega)
    rw [joined_eq, ttexts_bytes] at this
    have e : (ttexts L).length = L.length := by simp [ttexts]
    rw [e] at this
    exact this

set_option maxRecDepth 100000 in
theorem join_long1 (A : Option Addr) (n cap : Nat) (s : ByteArray) (w : World) (hG : Glob w) (hn : 50 < n) (hm : n ≤ maxLen) : Calls Tryd.prog 7 #[.slice A n cap, .string s] w fun e w' => e = .returned (.bool true) ∧ Below w.heap.size w w' := by
  unfold maxLen at hm
  have HG := Lib.hid hG
  clear hG
  have hd : decide ((50 : Int) < (n : Int)) = true := by simp; omega
  have hd2 : (50 : Int) < (n : Int) := by omega
  go_enter Tryd.func7, Tryd.ntmps7
  go_wp2_with fail
  refine (awake_any _ HG.out).mono ?_
  rintro e w1 ⟨rfl, hb1⟩
  go_wp2
  go_ret
  exact ⟨rfl, hb1⟩
set_option maxRecDepth 100000 in
theorem join_long2 (A : Option Addr) (n cap : Nat) (s : ByteArray) (w : World) (hG : Glob w) (hn : n ≤ 50) (hs : 300 < s.size) (hm : s.size ≤ maxLen) : Calls Tryd.prog 7 #[.slice A n cap, .string s] w fun e w' => e = .returned (.bool true) ∧ Below w.heap.size w w' := by
  unfold maxLen at hm
  have HG := Lib.hid hG
  clear hG
  have hd : decide ((50 : Int) < (n : Int)) = false := by simp; omega
  have hd1 : decide ((300 : Int) < (s.size : Int)) = true := by simp; omega
  have hd2 : (300 : Int) < (s.size : Int) := by omega
  go_enter Tryd.func7, Tryd.ntmps7
  go_wp2_with fail
  refine (awake_any _ HG.out).mono ?_
  rintro e w1 ⟨rfl, hb1⟩
  go_wp2
  go_ret
  exact ⟨rfl, hb1⟩

theorem own_empty (w : World) : (w.alloc (.cells #[] 33)).ownsRow w.heap.size 33 3 (.slice (some ⟨w.heap.size, 0, none⟩) 0 0) 0 [] := by
  exact ⟨rfl, .inr ⟨w.heap.size, 0, #[], rfl, Nat.le_refl _, heap_alloc_new w _, Nat.le_refl _, by unfold maxLen; omega, rfl, rfl⟩⟩

set_option maxRecDepth 100000 in
set_option maxHeartbeats 2000000 in
theorem join_some_err (g off cap : Nat) (l : List ATok) (s : ByteArray) (w : World) (hG : Glob w) (hg : g < w.heap.size) (h : ArgL w g off l) (hl0 : 0 < l.length) (hl : l.length ≤ 50) (ht : total (atexts l) ≤ 1048576) (hs : s.size ≤ 300) (he : scanE s.data.toList ≠ 0) :
    Calls Tryd.prog 7 #[.slice (some ⟨g, off, none⟩) l.length cap, .string s] w fun e w' => e = .returned (.bool true) ∧ Below w.heap.size w w' := by
  have HG := Lib.hid hG
  have HL := Lib.hid h
  have HT := Lib.hid ht
  clear hG h ht
  have hd : decide ((50 : Int) < (l.length : Int)) = false := by simp; omega
  obtain ⟨i0, hi, hz0, hz1, hz2⟩ := info_parts info33
  have hd1 : decide ((300 : Int) < (s.size : Int)) = false := by simp; omega
  have HM : Hid (s.size ≤ maxLen) := Lib.hid (by unfold maxLen; omega)
  have HE : ((scanE s.data.toList : Int) != 0) = true := by simpa using he
  have HE0 := Lib.hid HE
  clear HE he
  go_enter Tryd.func7, Tryd.ntmps7
  go_wp2_with fail
  refine (awake_any _ HG.out).mono ?_
  rintro e w1 ⟨rfl, hb1⟩
  have G1 := Lib.hid (HG.out.below hb1)
  have B1 := Lib.hid hb1
  have A1 := Lib.hid (HL.out.below hb1 hg)
  have hg1 : g < w1.heap.size := by have := hb1.size; omega
  clear hb1
  have W1 : Hid (World.ownsRow (w1.alloc (.cells #[] 33)) w1.heap.size 33 3 (.slice (some ⟨w1.heap.size, 0, none⟩) 0 0) 0 []) := Lib.hid (own_empty w1)
  go_wp2_with (at_builtin; refine wpList_append_lies _ rfl _ _ _ rfl w1.heap.size 33 i0 _ 3 32 Tryd.underlying23 hi hz0 hz1 hz2 rfl (by omega) (.slice (some ⟨w1.heap.size, 0, none⟩) 0 0) 0 [] rfl W1.out ⟨g, off, none⟩ l.length cap (acells l) rfl (acells_length l) ((A1.out.below ((Below.refl _ _).alloc (Nat.le_refl _) _) hg1).add) (acells_one l) hl0 (by unfold maxLen; omega) (by omega) (by simp) (w1.heap.size + 1) (by simp) ?_; intro g2 cap2 w2 hown2 hgrow2 hat2 hlt2)
  have B2 : Hid (Below w1.heap.size w1 w2) := Lib.hid (((Below.refl _ _).alloc (Nat.le_refl _) _).grown hgrow2 (by simp) (fun k hk => by cases hk; exact Nat.le_refl _))
  have T2 : Hid (Texts w2 g2 0 (atexts l)) := Lib.hid (argl_own (l := l) (by simpa using hown2)).texts
  clear hown2 hgrow2 hat2 W1
  have hla : (atexts l).length = l.length := by simp [atexts]
  have J1 := Lib.hid (join_some g2 0 cap2 (atexts l) w2 hlt2 T2.out (by rw [hla]; omega) (by have := HT.out; omega))
  have A2 := Lib.hid (A1.out.below B2.out hg1)
  have hg2 : g < w2.heap.size := by have := B2.out.size; omega
  rw [hla] at J1
  go_wp2_with fail
  refine J1.out.mono ?_
  rintro e w3 ⟨rfl, hb3⟩
  have J2 := Lib.hid (rjoin_some g off cap (atexts l) w3 (A2.out.below hb3 hg2).texts (by rw [hla]; omega) (by have := HT.out; omega))
  rw [hla] at J2
  have B3 := Lib.hid ((B1.out.trans (B2.out.mono B1.out.size)).trans (hb3.mono (by have := B1.out.size; have := B2.out.size; omega)))
  clear hb3 hla J1
  go_wp2_with fail
  refine J2.out.mono ?_
  rintro e w4 ⟨rfl, rfl⟩
  clear J2
  have G3 := Lib.hid (HG.out.below B3.out)
  go_wp2_with fail
  refine (scan_any s w3 HM.out G3.out).mono ?_
  rintro e w5 ⟨A5, c5, rfl, ho5, hb5⟩
  have B5 := Lib.hid (B3.out.trans (hb5.mono B3.out.size))
  have HE := HE0.out
  clear ho5 hb5
  go_wp2
  go_ret
  exact ⟨rfl, B5.out⟩

set_option maxRecDepth 100000 in
set_option maxHeartbeats 2000000 in
theorem join_some_ok (g off cap : Nat) (l : List ATok) (s : ByteArray) (w : World) (hG : Glob w) (hg : g < w.heap.size) (h : ArgL w g off l) (hl0 : 0 < l.length) (hl : l.length ≤ 50) (ht : total (atexts l) ≤ 1048576) (hs : s.size ≤ 300) (he : scanE s.data.toList = 0) :
    Calls Tryd.prog 7 #[.slice (some ⟨g, off, none⟩) l.length cap, .string s] w fun e w' => e = .returned (.bool true) ∧ Below w.heap.size w w' := by
  have HG := Lib.hid hG
  have HL := Lib.hid h
  have HT := Lib.hid ht
  clear hG h ht
  have hd : decide ((50 : Int) < (l.length : Int)) = false := by simp; omega
  obtain ⟨i0, hi, hz0, hz1, hz2⟩ := info_parts info33
  have hd1 : decide ((300 : Int) < (s.size : Int)) = false := by simp; omega
  have HM : Hid (s.size ≤ maxLen) := Lib.hid (by unfold maxLen; omega)
  have HE := Lib.hid he
  have HJ := Lib.hid (join_scan (by rw [← size_list]; exact hs) he)
  obtain ⟨L, hL⟩ : ∃ L, scanL s.data.toList = L := ⟨_, rfl⟩
  rw [hL] at HJ
  have HLL := Lib.hid hL
  clear he hL
  go_enter Tryd.func7, Tryd.ntmps7
  go_wp2_with fail
  refine (awake_any _ HG.out).mono ?_
  rintro e w1 ⟨rfl, hb1⟩
  have G1 := Lib.hid (HG.out.below hb1)
  have B1 := Lib.hid hb1
  have A1 := Lib.hid (HL.out.below hb1 hg)
  have hg1 : g < w1.heap.size := by have := hb1.size; omega
  clear hb1
  have W1 : Hid (World.ownsRow (w1.alloc (.cells #[] 33)) w1.heap.size 33 3 (.slice (some ⟨w1.heap.size, 0, none⟩) 0 0) 0 []) := Lib.hid (own_empty w1)
  go_wp2_with (at_builtin; refine wpList_append_lies _ rfl _ _ _ rfl w1.heap.size 33 i0 _ 3 32 Tryd.underlying23 hi hz0 hz1 hz2 rfl (by omega) (.slice (some ⟨w1.heap.size, 0, none⟩) 0 0) 0 [] rfl W1.out ⟨g, off, none⟩ l.length cap (acells l) rfl (acells_length l) ((A1.out.below ((Below.refl _ _).alloc (Nat.le_refl _) _) hg1).add) (acells_one l) hl0 (by unfold maxLen; omega) (by omega) (by simp) (w1.heap.size + 1) (by simp) ?_; intro g2 cap2 w2 hown2 hgrow2 hat2 hlt2)
  have B2 : Hid (Below w1.heap.size w1 w2) := Lib.hid (((Below.refl _ _).alloc (Nat.le_refl _) _).grown hgrow2 (by simp) (fun k hk => by cases hk; exact Nat.le_refl _))
  have T2 : Hid (Texts w2 g2 0 (atexts l)) := Lib.hid (argl_own (l := l) (by simpa using hown2)).texts
  clear hown2 hgrow2 hat2 W1
  have hla : (atexts l).length = l.length := by simp [atexts]
  have J1 := Lib.hid (join_some g2 0 cap2 (atexts l) w2 hlt2 T2.out (by rw [hla]; omega) (by have := HT.out; omega))
  have A2 := Lib.hid (A1.out.below B2.out hg1)
  have hg2 : g < w2.heap.size := by have := B2.out.size; omega
  rw [hla] at J1
  go_wp2_with fail
  refine J1.out.mono ?_
  rintro e w3 ⟨rfl, hb3⟩
  have J2 := Lib.hid (rjoin_some g off cap (atexts l) w3 (A2.out.below hb3 hg2).texts (by rw [hla]; omega) (by have := HT.out; omega))
  rw [hla] at J2
  have B3 := Lib.hid ((B1.out.trans (B2.out.mono B1.out.size)).trans (hb3.mono (by have := B1.out.size; have := B2.out.size; omega)))
  clear hb3 hla J1
  go_wp2_with fail
  refine J2.out.mono ?_
  rintro e w4 ⟨rfl, rfl⟩
  clear J2
  have G3 := Lib.hid (HG.out.below B3.out)
  go_wp2_with fail
  refine (scan_at s w3 HM.out G3.out HE.out HLL.out).mono ?_
  rintro e w5 ⟨A5, c5, rfl, ho5, hb5⟩
  have B5 := Lib.hid (B3.out.trans (hb5.mono B3.out.size))
  have R5 := Lib.hid (rd_of ho5)
  obtain ⟨M, hM⟩ := HJ.out
  have MM := Lib.hid hM
  obtain ⟨sj, hsj⟩ : ∃ sj : ByteArray, sj = ⟨(joinL (L.map (·.t))).toArray⟩ := ⟨_, rfl⟩
  have J5 := Lib.hid (join_rd A5 c5 L w5 R5.out MM.out.2.2.2.2.1 MM.out.2.2.2.2.2 hsj)
  have q1 : Hid (scanL sj.data.toList = M) := Lib.hid (by rw [hsj]; exact MM.out.1)
  have q2 : Hid (scanE sj.data.toList = 0) := Lib.hid (by rw [hsj]; exact MM.out.2.2.1)
  have q3 : Hid (sj.size ≤ maxLen) := Lib.hid (by
    rw [hsj]
    show (joinL (L.map (·.t))).toArray.size ≤ _
    have h1 := joinL_len (L.map (·.t))
    have h2 := MM.out.2.2.2.2
    rw [List.length_map] at h1
    simp only [List.size_toArray]
    unfold maxLen; omega)
  clear ho5 hb5 hM hsj
  go_wp2_with fail
  refine J5.out.mono ?_
  rintro e w6 ⟨rfl, hb6⟩
  have B6 := Lib.hid (B5.out.trans (hb6.mono B5.out.size))
  have G6 := Lib.hid (HG.out.below B6.out)
  have R6 := Lib.hid (R5.out.below hb6)
  clear hb6 J5
  go_wp2_with fail
  refine (scan_at sj w6 q3.out G6.out q2.out q1.out).mono ?_
  rintro e w7 ⟨A7, c7, rfl, ho7, hb7⟩
  have B7 := Lib.hid (B6.out.trans (hb7.mono B6.out.size))
  have R7 := Lib.hid (R6.out.below hb7)
  have R8 := Lib.hid (rd_of ho7)
  have K7 := Lib.hid (alike_any A7 A5 c7 c5 M L w7 (by have h1 := congrArg List.length MM.out.2.1; have h2 := MM.out.2.2.2.2.1; simp at h1; omega) R8.out R7.out MM.out.2.1)
  clear ho7 hb7
  go_wp2_with fail
  refine K7.out.mono ?_
  rintro e w8 ⟨rfl, hdr⟩
  have B8 : Hid (Below w.heap.size w w8) := by obtain ⟨n, rfl⟩ := hdr; exact B7.out.trans (below_draws _ _ _)
  clear hdr
  go_wp2
  go_ret
  exact ⟨rfl, B8.out⟩

set_option maxRecDepth 100000 in
set_option maxHeartbeats 2000000 in
theorem join_nil_err (s : ByteArray) (w : World) (hG : Glob w) (hs : s.size ≤ 300) (he : scanE s.data.toList ≠ 0) : Calls Tryd.prog 7 #[.slice none 0 0, .string s] w fun e w' => e = .returned (.bool true) ∧ Below w.heap.size w w' := by
  have HG := Lib.hid hG
  clear hG
  have hd : decide ((50 : Int) < ((0 : Nat) : Int)) = false := by simp
  have hd1 : decide ((300 : Int) < (s.size : Int)) = false := by simp; omega
  have HM : Hid (s.size ≤ maxLen) := Lib.hid (by unfold maxLen; omega)
  have HE : ((scanE s.data.toList : Int) != 0) = true := by simpa using he
  have HE0 := Lib.hid HE
  clear HE he
  go_enter Tryd.func7, Tryd.ntmps7
  go_wp2_with fail
  refine (awake_any _ HG.out).mono ?_
  rintro e w1 ⟨rfl, hb1⟩
  have G1 := Lib.hid (HG.out.below hb1)
  have B1 := Lib.hid hb1
  clear hb1
  have J1 := fun A c w => join_none A c w
  have J2 := fun A c w => rjoin_none A c w
  have HJ1 := Lib.hid J1
  have HJ2 := Lib.hid J2
  clear J1 J2
  have B2 : Hid (Below w1.heap.size w1 (w1.alloc (.cells #[] 33))) := Lib.hid ((Below.refl _ _).alloc (Nat.le_refl _) _)
  go_wp2_with fail
  refine (HJ1.out _ _ _).mono ?_
  rintro e w3 ⟨rfl, hb3⟩
  have B3 := Lib.hid ((B1.out.trans (B2.out.mono B1.out.size)).trans (hb3.mono (by have := B1.out.size; have := B2.out.size; omega)))
  clear hb3
  go_wp2_with fail
  refine (HJ2.out _ _ _).mono ?_
  rintro e w4 ⟨rfl, rfl⟩
  have G3 := Lib.hid (HG.out.below B3.out)
  go_wp2_with fail
  refine (scan_any s w3 HM.out G3.out).mono ?_
  rintro e w5 ⟨A5, c5, rfl, ho5, hb5⟩
  have B5 := Lib.hid (B3.out.trans (hb5.mono B3.out.size))
  have HE := HE0.out
  clear ho5 hb5
  go_wp2
  go_ret
  exact ⟨rfl, B5.out⟩

set_option maxRecDepth 100000 in
set_option maxHeartbeats 2000000 in
theorem join_nil_ok (s : ByteArray) (w : World) (hG : Glob w) (hs : s.size ≤ 300) (he : scanE s.data.toList = 0) : Calls Tryd.prog 7 #[.slice none 0 0, .string s] w fun e w' => e = .returned (.bool true) ∧ Below w.heap.size w w' := by
  have HG := Lib.hid hG
  clear hG
  have hd : decide ((50 : Int) < ((0 : Nat) : Int)) = false := by simp
  have hd1 : decide ((300 : Int) < (s.size : Int)) = false := by simp; omega
  have HM : Hid (s.size ≤ maxLen) := Lib.hid (by unfold maxLen; omega)
  have HE := Lib.hid he
  have HJ := Lib.hid (join_scan (by rw [← size_list]; exact hs) he)
  obtain ⟨L, hL⟩ : ∃ L, scanL s.data.toList = L := ⟨_, rfl⟩
  rw [hL] at HJ
  have HLL := Lib.hid hL
  clear he hL
  go_enter Tryd.func7, Tryd.ntmps7
  go_wp2_with fail
  refine (awake_any _ HG.out).mono ?_
  rintro e w1 ⟨rfl, hb1⟩
  have G1 := Lib.hid (HG.out.below hb1)
  have B1 := Lib.hid hb1
  clear hb1
  have J1 := fun A c w => join_none A c w
  have J2 := fun A c w => rjoin_none A c w
  have HJ1 := Lib.hid J1
  have HJ2 := Lib.hid J2
  clear J1 J2
  have B2 : Hid (Below w1.heap.size w1 (w1.alloc (.cells #[] 33))) := Lib.hid ((Below.refl _ _).alloc (Nat.le_refl _) _)
  go_wp2_with fail
  refine (HJ1.out _ _ _).mono ?_
  rintro e w3 ⟨rfl, hb3⟩
  have B3 := Lib.hid ((B1.out.trans (B2.out.mono B1.out.size)).trans (hb3.mono (by have := B1.out.size; have := B2.out.size; omega)))
  clear hb3
  go_wp2_with fail
  refine (HJ2.out _ _ _).mono ?_
  rintro e w4 ⟨rfl, rfl⟩
  have G3 := Lib.hid (HG.out.below B3.out)
  go_wp2_with fail
  refine (scan_at s w3 HM.out G3.out HE.out HLL.out).mono ?_
  rintro e w5 ⟨A5, c5, rfl, ho5, hb5⟩
  have B5 := Lib.hid (B3.out.trans (hb5.mono B3.out.size))
  have R5 := Lib.hid (rd_of ho5)
  obtain ⟨M, hM⟩ := HJ.out
  have MM := Lib.hid hM
  obtain ⟨sj, hsj⟩ : ∃ sj : ByteArray, sj = ⟨(joinL (L.map (·.t))).toArray⟩ := ⟨_, rfl⟩
  have J5 := Lib.hid (join_rd A5 c5 L w5 R5.out MM.out.2.2.2.2.1 MM.out.2.2.2.2.2 hsj)
  have q1 : Hid (scanL sj.data.toList = M) := Lib.hid (by rw [hsj]; exact MM.out.1)
  have q2 : Hid (scanE sj.data.toList = 0) := Lib.hid (by rw [hsj]; exact MM.out.2.2.1)
  have q3 : Hid (sj.size ≤ maxLen) := Lib.hid (by
    rw [hsj]
    show (joinL (L.map (·.t))).toArray.size ≤ _
    have h1 := joinL_len (L.map (·.t))
    have h2 := MM.out.2.2.2.2
    rw [List.length_map] at h1
    simp only [List.size_toArray]
    unfold maxLen; omega)
  clear ho5 hb5 hM hsj
  go_wp2_with fail
  refine J5.out.mono ?_
  rintro e w6 ⟨rfl, hb6⟩
  have B6 := Lib.hid (B5.out.trans (hb6.mono B5.out.size))
  have G6 := Lib.hid (HG.out.below B6.out)
  have R6 := Lib.hid (R5.out.below hb6)
  clear hb6 J5
  go_wp2_with fail
  refine (scan_at sj w6 q3.out G6.out q2.out q1.out).mono ?_
  rintro e w7 ⟨A7, c7, rfl, ho7, hb7⟩
  have B7 := Lib.hid (B6.out.trans (hb7.mono B6.out.size))
  have R7 := Lib.hid (R6.out.below hb7)
  have R8 := Lib.hid (rd_of ho7)
  have K7 := Lib.hid (alike_any A7 A5 c7 c5 M L w7 (by have h1 := congrArg List.length MM.out.2.1; have h2 := MM.out.2.2.2.2.1; simp at h1; omega) R8.out R7.out MM.out.2.1)
  clear ho7 hb7
  go_wp2_with fail
  refine K7.out.mono ?_
  rintro e w8 ⟨rfl, hdr⟩
  have B8 : Hid (Below w.heap.size w w8) := by obtain ⟨n, rfl⟩ := hdr; exact B7.out.trans (below_draws _ _ _)
  clear hdr
  go_wp2
  go_ret
  exact ⟨rfl, B8.out⟩

set_option maxRecDepth 100000 in
set_option maxHeartbeats 2000000 in
theorem join_empty_err (ad : Addr) (cap : Nat) (s : ByteArray) (w : World) (hG : Glob w) (hs : s.size ≤ 300) (he : scanE s.data.toList ≠ 0) : Calls Tryd.prog 7 #[.slice (some ad) 0 cap, .string s] w fun e w' => e = .returned (.bool true) ∧ Below w.heap.size w w' := by
  have HG := Lib.hid hG
  clear hG
  have hd : decide ((50 : Int) < ((0 : Nat) : Int)) = false := by simp
  have hst : ∀ (x : Addr) (W : World), Sem.run Tryd.prog (storeCells x []) W = .ok () W := fun _ _ => by simp [storeCells]
  have hpu : ∀ (W : World), Sem.run Tryd.prog (pure (#[] : Array Value)) W = .ok #[] W := fun _ => by simp
  have hd1 : decide ((300 : Int) < (s.size : Int)) = false := by simp; omega
  have HM : Hid (s.size ≤ maxLen) := Lib.hid (by unfold maxLen; omega)
  have HE : ((scanE s.data.toList : Int) != 0) = true := by simpa using he
  have HE0 := Lib.hid HE
  clear HE he
  go_enter Tryd.func7, Tryd.ntmps7
  go_wp2_with fail
  refine (awake_any _ HG.out).mono ?_
  rintro e w1 ⟨rfl, hb1⟩
  have G1 := Lib.hid (HG.out.below hb1)
  have B1 := Lib.hid hb1
  clear hb1
  have J1 := fun A c w => join_none A c w
  have J2 := fun A c w => rjoin_none A c w
  have HJ1 := Lib.hid J1
  have HJ2 := Lib.hid J2
  clear J1 J2
  have B2 : Hid (Below w1.heap.size w1 (w1.alloc (.cells #[] 33))) := Lib.hid ((Below.refl _ _).alloc (Nat.le_refl _) _)
  go_wp2_with fail
  refine (HJ1.out _ _ _).mono ?_
  rintro e w3 ⟨rfl, hb3⟩
  have B3 := Lib.hid ((B1.out.trans (B2.out.mono B1.out.size)).trans (hb3.mono (by have := B1.out.size; have := B2.out.size; omega)))
  clear hb3
  go_wp2_with fail
  refine (HJ2.out _ _ _).mono ?_
  rintro e w4 ⟨rfl, rfl⟩
  have G3 := Lib.hid (HG.out.below B3.out)
  go_wp2_with fail
  refine (scan_any s w3 HM.out G3.out).mono ?_
  rintro e w5 ⟨A5, c5, rfl, ho5, hb5⟩
  have B5 := Lib.hid (B3.out.trans (hb5.mono B3.out.size))
  have HE := HE0.out
  clear ho5 hb5
  go_wp2
  go_ret
  exact ⟨rfl, B5.out⟩

set_option maxRecDepth 100000 in
set_option maxHeartbeats 2000000 in
theorem join_empty_ok (ad : Addr) (cap : Nat) (s : ByteArray) (w : World) (hG : Glob w) (hs : s.size ≤ 300) (he : scanE s.data.toList = 0) : Calls Tryd.prog 7 #[.slice (some ad) 0 cap, .string s] w fun e w' => e = .returned (.bool true) ∧ Below w.heap.size w w' := by
  have HG := Lib.hid hG
  clear hG
  have hd : decide ((50 : Int) < ((0 : Nat) : Int)) = false := by simp
  have hst : ∀ (x : Addr) (W : World), Sem.run Tryd.prog (storeCells x []) W = .ok () W := fun _ _ => by simp [storeCells]
  have hpu : ∀ (W : World), Sem.run Tryd.prog (pure (#[] : Array Value)) W = .ok #[] W := fun _ => by simp
  have hd1 : decide ((300 : Int) < (s.size : Int)) = false := by simp; omega
  have HM : Hid (s.size ≤ maxLen) := Lib.hid (by unfold maxLen; omega)
  have HE := Lib.hid he
  have HJ := Lib.hid (join_scan (by rw [← size_list]; exact hs) he)
  obtain ⟨L, hL⟩ : ∃ L, scanL s.data.toList = L := ⟨_, rfl⟩
  rw [hL] at HJ
  have HLL := Lib.hid hL
  clear he hL
  go_enter Tryd.func7, Tryd.ntmps7
  go_wp2_with fail
  refine (awake_any _ HG.out).mono ?_
  rintro e w1 ⟨rfl, hb1⟩
  have G1 := Lib.hid (HG.out.below hb1)
  have B1 := Lib.hid hb1
  clear hb1
  have J1 := fun A c w => join_none A c w
  have J2 := fun A c w => rjoin_none A c w
  have HJ1 := Lib.hid J1
  have HJ2 := Lib.hid J2
  clear J1 J2
  have B2 : Hid (Below w1.heap.size w1 (w1.alloc (.cells #[] 33))) := Lib.hid ((Below.refl _ _).alloc (Nat.le_refl _) _)
  go_wp2_with fail
  refine (HJ1.out _ _ _).mono ?_
  rintro e w3 ⟨rfl, hb3⟩
  have B3 := Lib.hid ((B1.out.trans (B2.out.mono B1.out.size)).trans (hb3.mono (by have := B1.out.size; have := B2.out.size; omega)))
  clear hb3
  go_wp2_with fail
  refine (HJ2.out _ _ _).mono ?_
  rintro e w4 ⟨rfl, rfl⟩
  have G3 := Lib.hid (HG.out.below B3.out)
  go_wp2_with fail
  refine (scan_at s w3 HM.out G3.out HE.out HLL.out).mono ?_
  rintro e w5 ⟨A5, c5, rfl, ho5, hb5⟩
  have B5 := Lib.hid (B3.out.trans (hb5.mono B3.out.size))
  have R5 := Lib.hid (rd_of ho5)
  obtain ⟨M, hM⟩ := HJ.out
  have MM := Lib.hid hM
  obtain ⟨sj, hsj⟩ : ∃ sj : ByteArray, sj = ⟨(joinL (L.map (·.t))).toArray⟩ := ⟨_, rfl⟩
  have J5 := Lib.hid (join_rd A5 c5 L w5 R5.out MM.out.2.2.2.2.1 MM.out.2.2.2.2.2 hsj)
  have q1 : Hid (scanL sj.data.toList = M) := Lib.hid (by rw [hsj]; exact MM.out.1)
  have q2 : Hid (scanE sj.data.toList = 0) := Lib.hid (by rw [hsj]; exact MM.out.2.2.1)
  have q3 : Hid (sj.size ≤ maxLen) := Lib.hid (by
    rw [hsj]
    show (joinL (L.map (·.t))).toArray.size ≤ _
    have h1 := joinL_len (L.map (·.t))
    have h2 := MM.out.2.2.2.2
    rw [List.length_map] at h1
    simp only [List.size_toArray]
    unfold maxLen; omega)
  clear ho5 hb5 hM hsj
  go_wp2_with fail
  refine J5.out.mono ?_
  rintro e w6 ⟨rfl, hb6⟩
  have B6 := Lib.hid (B5.out.trans (hb6.mono B5.out.size))
  have G6 := Lib.hid (HG.out.below B6.out)
  have R6 := Lib.hid (R5.out.below hb6)
  clear hb6 J5
  go_wp2_with fail
  refine (scan_at sj w6 q3.out G6.out q2.out q1.out).mono ?_
  rintro e w7 ⟨A7, c7, rfl, ho7, hb7⟩
  have B7 := Lib.hid (B6.out.trans (hb7.mono B6.out.size))
  have R7 := Lib.hid (R6.out.below hb7)
  have R8 := Lib.hid (rd_of ho7)
  have K7 := Lib.hid (alike_any A7 A5 c7 c5 M L w7 (by have h1 := congrArg List.length MM.out.2.1; have h2 := MM.out.2.2.2.2.1; simp at h1; omega) R8.out R7.out MM.out.2.1)
  clear ho7 hb7
  go_wp2_with fail
  refine K7.out.mono ?_
  rintro e w8 ⟨rfl, hdr⟩
  have B8 : Hid (Below w.heap.size w w8) := by obtain ⟨n, rfl⟩ := hdr; exact B7.out.trans (below_draws _ _ _)
  clear hdr
  go_wp2
  go_ret
  exact ⟨rfl, B8.out⟩
end Go.Proofs.YtaalgkcbknlccaaDoor
