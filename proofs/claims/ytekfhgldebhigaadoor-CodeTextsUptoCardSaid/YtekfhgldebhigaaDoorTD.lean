/-
  The specification's words; the program's numbers in a row (decimals), the operands that are used.
-/
import Derived.Test.YtekfhgldebhigaaDoorTC
import Derived.Test.YtekfhgldebhigaaDoorDA
set_option linter.all false
namespace Go.Proofs.YtekfhgldebhigaaDoor
open Go.RowKit C
set_option maxRecDepth 100000
/-! ### the specification's words -/
def WL : List Value := [.string ⟨#[]⟩, .string ⟨#[99, 111, 110, 115, 116]⟩, .string ⟨#[110, 105, 108]⟩, .string ⟨#[109, 111, 118, 101]⟩, .string ⟨#[97, 100, 100]⟩, .string ⟨#[115, 117, 98]⟩, .string ⟨#[109, 117, 108]⟩, .string ⟨#[100, 105, 118]⟩, .string ⟨#[114, 101, 109]⟩, .string ⟨#[110, 101, 103]⟩, .string ⟨#[110, 111, 116]⟩, .string ⟨#[101, 113]⟩, .string ⟨#[110, 101]⟩, .string ⟨#[108, 116]⟩, .string ⟨#[108, 101]⟩, .string ⟨#[108, 101, 110]⟩, .string ⟨#[106, 117, 109, 112]⟩, .string ⟨#[106, 117, 109, 112, 122]⟩, .string ⟨#[103, 108, 111, 98, 97, 108]⟩, .string ⟨#[102, 105, 101, 108, 100]⟩, .string ⟨#[105, 110, 100, 101, 120]⟩, .string ⟨#[110, 101, 119]⟩, .string ⟨#[115, 108, 105, 99, 101]⟩, .string ⟨#[99, 104, 97, 110]⟩, .string ⟨#[99, 108, 111, 115, 117, 114, 101]⟩, .string ⟨#[99, 97, 112]⟩, .string ⟨#[99, 97, 108, 108]⟩, .string ⟨#[99, 97, 108, 108, 99]⟩, .string ⟨#[100, 101, 102, 101, 114]⟩, .string ⟨#[100, 101, 102, 101, 114, 99]⟩, .string ⟨#[114, 101, 116, 117, 114, 110]⟩, .string ⟨#[103, 111]⟩, .string ⟨#[103, 111, 99]⟩, .string ⟨#[108, 111, 97, 100]⟩, .string ⟨#[115, 116, 111, 114, 101]⟩, .string ⟨#[97, 108, 111, 97, 100]⟩, .string ⟨#[97, 115, 116, 111, 114, 101]⟩, .string ⟨#[97, 97, 100, 100]⟩, .string ⟨#[97, 99, 97, 115]⟩, .string ⟨#[108, 111, 99, 107]⟩, .string ⟨#[117, 110, 108, 111, 99, 107]⟩, .string ⟨#[114, 108, 111, 99, 107]⟩, .string ⟨#[114, 117, 110, 108, 111, 99, 107]⟩, .string ⟨#[103, 114, 111, 117, 112]⟩, .string ⟨#[119, 97, 105, 116]⟩, .string ⟨#[111, 110, 99, 101]⟩, .string ⟨#[111, 110, 99, 101, 101, 110, 100]⟩, .string ⟨#[115, 101, 110, 100]⟩, .string ⟨#[114, 101, 99, 118]⟩, .string ⟨#[99, 108, 111, 115, 101]⟩, .string ⟨#[115, 101, 108, 101, 99, 116]⟩, .string ⟨#[99, 97, 115, 101]⟩, .string ⟨#[112, 114, 105, 110, 116]⟩]
def WV : Array Value := WL.toArray
theorem WL_at {i : Nat} (h : i < 53) : WL[i]? = some (.string (txt (words.getD i []))) := by
  have H : ∀ i : Fin 53, WL[i.val]? = some (.string (txt (words.getD i.val []))) := by
    intro i
    match i with
    | ⟨0, _⟩ => rfl
    | ⟨1, _⟩ => rfl
    | ⟨2, _⟩ => rfl
    | ⟨3, _⟩ => rfl
    | ⟨4, _⟩ => rfl
    | ⟨5, _⟩ => rfl
    | ⟨6, _⟩ => rfl
    | ⟨7, _⟩ => rfl
    | ⟨8, _⟩ => rfl
    | ⟨9, _⟩ => rfl
    | ⟨10, _⟩ => rfl
    | ⟨11, _⟩ => rfl
    | ⟨12, _⟩ => rfl
    | ⟨13, _⟩ => rfl
    | ⟨14, _⟩ => rfl
    | ⟨15, _⟩ => rfl
    | ⟨16, _⟩ => rfl
    | ⟨17, _⟩ => rfl
    | ⟨18, _⟩ => rfl
    | ⟨19, _⟩ => rfl
    | ⟨20, _⟩ => rfl
    | ⟨21, _⟩ => rfl
    | ⟨22, _⟩ => rfl
    | ⟨23, _⟩ => rfl
    | ⟨24, _⟩ => rfl
    | ⟨25, _⟩ => rfl
    | ⟨26, _⟩ => rfl
    | ⟨27, _⟩ => rfl
    | ⟨28, _⟩ => rfl
    | ⟨29, _⟩ => rfl
    | ⟨30, _⟩ => rfl
    | ⟨31, _⟩ => rfl
    | ⟨32, _⟩ => rfl
    | ⟨33, _⟩ => rfl
    | ⟨34, _⟩ => rfl
    | ⟨35, _⟩ => rfl
    | ⟨36, _⟩ => rfl
    | ⟨37, _⟩ => rfl
    | ⟨38, _⟩ => rfl
    | ⟨39, _⟩ => rfl
    | ⟨40, _⟩ => rfl
    | ⟨41, _⟩ => rfl
    | ⟨42, _⟩ => rfl
    | ⟨43, _⟩ => rfl
    | ⟨44, _⟩ => rfl
    | ⟨45, _⟩ => rfl
    | ⟨46, _⟩ => rfl
    | ⟨47, _⟩ => rfl
    | ⟨48, _⟩ => rfl
    | ⟨49, _⟩ => rfl
    | ⟨50, _⟩ => rfl
    | ⟨51, _⟩ => rfl
    | ⟨52, _⟩ => rfl
    | ⟨n + 53, h⟩ => exact absurd h (by omega)
  exact H ⟨i, h⟩
theorem WV_one : WV.all (·.oneCell') = true := by kernel_rfl
theorem wpList_build53w {ops : Array Oper} {rest : List Oper} {o : Oper} {a : Act} {w : World} {Q : Exit → Act → World → Prop} (hgd : o.guard = none) (parts : Array (Nat × Operand)) (ho : o.op = .build 77 parts)
    (hb : (Instr.build 77 (parts.map fun x => (x.1, a.eval x.2))).run Tryd.prog w = .ok (.agg WV) w)
    (h : wpList Tryd.prog ops Q rest (a.put o.dst (.agg WV)) w) : wpList Tryd.prog ops Q (o :: rest) a w :=
  wpList_plain hgd fun _ hK => by
    unfold Oper.wp execOp
    simp only [ho, Sem.run_bind, hb, Sem.run_pure, Result.andThen_ok]
    exact hK _ _ h
theorem wpList_store53w {ops : Array Oper} {rest : List Oper} {o : Oper} {a : Act} {w : World} {Q : Exit → Act → World → Prop} (hgd : o.guard = none) (x y : Operand) (ho : o.op = .store 77 x y)
    (b : Nat) (hx : a.eval x = .pointer (some ⟨b, 0, none⟩)) (hy : a.eval y = .agg WV) (ht : w.there b 0 53)
    (h : wpList Tryd.prog ops Q rest (a.put o.dst undef) (w.setCells b 0 WL)) : wpList Tryd.prog ops Q (o :: rest) a w :=
  wpList_store_mid hgd 77 x y ho b 0 WV hx hy ht info53 WV_one h
set_option maxHeartbeats 4000000 in
theorem rword_any (op : Int) (h0 : 0 ≤ op) (h1 : op < 53) (w : World) : Calls Tryd.prog 25 #[.int .i64 op] w fun e w' => e = .returned (.string (txt (wordT op))) ∧ Below w.heap.size w w' := by
  have hT := WL_at (i := op.toNat) (by omega)
  have hw : wordT op = words.getD op.toNat [] := by unfold wordT; rw [if_neg (by omega)]
  rw [hw]
  generalize txt (words.getD op.toNat []) = s at hT ⊢
  have key : ∀ W, W = (w.alloc (.cells Z53 77)).setCells w.heap.size 0 WL → W.cell? ⟨w.heap.size, op.toNat, none⟩ = some (.string s) ∧ Below w.heap.size w W := by
    intro W hW
    subst hW
    refine ⟨?_, bel_setCells _ (Nat.le_refl _) WL 0 _ (below1 _ _)⟩
    have := World.rangeAt_setCells_same (w.alloc (.cells Z53 77)) w.heap.size 0 WL (there_new w) op.toNat _ hT
    rwa [Nat.zero_add] at this
  have HK := Lib.hid key
  have a1 : ¬ op < 0 := by omega
  have a2 : ¬ 53 ≤ op := by omega
  clear key hT hw
  go_enter Tryd.func25, Tryd.ntmps25
  have tok : True := trivial
  go_wp2_with (first
    | (with_reducible refine wpList_alloc53 rfl rfl ?_)
    | (refine wpList_build53w rfl _ (by rfl) (by as_aux_lemma => kernel_rfl) ?_)
    | (have _t := tok; refine wpList_store53w rfl (.tmp 3) (.tmp 4) rfl w.heap.size (by rfl) (by rfl) (there_new w) ?_; clear tok _t
       obtain ⟨W, hW⟩ : ∃ W, W = (w.alloc (.cells Z53 77)).setCells w.heap.size 0 WL := ⟨_, rfl⟩
       obtain ⟨c0, hb⟩ := HK.out W hW
       rw [← hW]
       clear hW HK))
  all_goals
    go_ret
    exact ⟨rfl, hb⟩
/-! ### decimals -/
theorem bel_step {w V W : World} (h : Below w.heap.size w V) (h2 : Below V.heap.size V W) : Below w.heap.size w W := h.trans (h2.mono h.size)
theorem txt_size (l : Bs) : (txt l).size = l.length := by simp [txt, ByteArray.size]
set_option maxHeartbeats 4000000 in
theorem decimals_any (A : Option Addr) (l : List Int) (cap : Nat) (w : World) (hr : Row 1 (IntAt w) A l) (hT : Tb w) (hl : l.length ≤ 1100000) :
    Calls Tryd.prog 21 #[.slice A l.length cap] w fun e w' => e = .returned (.string (txt (numsT l))) ∧ Below w.heap.size w w' := by
  have HN := Lib.hid (Bd.new w)
  have HB0 := Lib.hid (below1 w (.cells #[.pointer none, .slice none 0 0] 50))
  have HR := Lib.hid hr
  have HTB := Lib.hid hT
  have hls : (l.length : Int) ≤ 1100000 := by omega
  clear hr hT
  go_enter Tryd.func21, Tryd.ntmps21
  go_wp2_with fail
  go_loopw [8] (fun s8 wr => ∃ k : Nat, s8 = .int .i64 (k : Int) ∧ k ≤ l.length ∧ Bd wr w.heap.size w.heap.size (numsT (l.take k)) ∧ Below w.heap.size w wr) (fun s8 _ => l.length - (intOf s8).toNat)
  case atStart => exact ⟨0, rfl, Nat.zero_le _, HN.out, HB0.out⟩
  case round =>
    obtain ⟨k, rfl, hk, hb, hbel⟩ := hrel
    have HB := Lib.hid hb
    have HBL := Lib.hid hbel
    clear hb hbel
    by_cases hlt : k < l.length
    · obtain ⟨g, o, rfl, hh⟩ := HR.out.at (by omega)
      have q := ((hh k hlt).below HBL.out).c0
      have hi := (hh k hlt).b0
      rw [Nat.mul_one] at q
      obtain ⟨x, hx⟩ : ∃ x, l[k] = x := ⟨_, rfl⟩
      rw [hx] at q hi
      have HX := Lib.hid hx
      have hlen : (numsT (l.take k)).length ≤ 22 * l.length := Nat.le_trans (numsT_len (fun n hn => by
        obtain ⟨j, hj, rfl⟩ := List.getElem_of_mem (List.mem_of_mem_take hn)
        exact (hh j hj).b0)) (by rw [List.length_take]; omega)
      have hit := itoa_len hi
      have HI := Lib.hid (itoa_any x hi wr (HTB.out.step HBL.out))
      obtain ⟨y, hy⟩ : ∃ y, txt (Lib.itoa x) = y := ⟨_, rfl⟩
      have HI2 : Hid (Calls Tryd.prog 51 #[.int .i64 x] wr fun e w' => e = .returned (.string y) ∧ Below wr.heap.size wr w') := Lib.hid (by have := HI.out; unfold RT at this; rw [hy] at this; exact this)
      have hys : y.size ≤ 21 := by rw [← hy, txt_size]; exact hit
      have z0 : ¬ 9223372036854775807 < 1 + y.size := by omega
      have HY : Hid (y.data.toList = Lib.itoa x) := Lib.hid (by rw [← hy]; rfl)
      have HLEN := Lib.hid hlen
      clear hx hh HI hy hit hlen
      go_wp2_with fail
      refine HI2.out.mono ?_
      rintro e w1 ⟨rfl, hb1⟩
      have HB1 := Lib.hid (HB.out.keep hb1)
      have HBL1 := Lib.hid (bel_step HBL.out hb1)
      clear hb1
      go_wp2_with fail
      refine (write_any w.heap.size w.heap.size _ _ w1 HB1.out (by have h1 := HLEN.out; have h2 : (y.data.toList).length = y.size := rfl; show _ ≤ 140737488355328; simp; omega)).mono ?_
      rintro e w2 ⟨⟨v, rfl⟩, hb2, hbel2, _⟩
      have HB2 : Hid (Bd w2 w.heap.size w.heap.size (numsT (l.take (k + 1)))) := Lib.hid (by
        rw [numsT_take hlt, HX.out, ← HY.out]; simpa using hb2)
      have HBL2 := Lib.hid (HBL1.out.trans hbel2)
      clear hb2 hbel2
      go_wp2
      go_roundw
      case rel => exact ⟨k + 1, by go_num, hlt, HB2.out, HBL2.out⟩
      case measure => simp [intOf]; omega
    · obtain rfl : k = l.length := by omega
      have HB3 : Hid (Bd wr w.heap.size w.heap.size (numsT l)) := Lib.hid (by have := HB.out; rwa [List.take_length] at this)
      go_wp2_with fail
      refine (string_any _ _ _ wr HB3.out).mono ?_
      rintro e w2 ⟨rfl, hb2⟩
      go_wp2
      go_ret
      exact ⟨rfl, HBL.out.trans hb2⟩
end Go.Proofs.YtekfhgldebhigaaDoor
