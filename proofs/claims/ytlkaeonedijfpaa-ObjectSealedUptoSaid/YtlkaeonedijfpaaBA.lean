/-
  Bytes in memory of the call's own; numbers of 32 and 64 bits as the walk has them.
  The specification's number.
-/
import Derived.Test.YtlkaeonedijfpaaNA
import Derived.Test.YtlkaeonedijfpaaOB
import Derived.WalkKit
import Derived.IntWalk
import Derived.Lib.Hide
import Derived.OwnWalk
import Derived.Deep.AppendLies
import Derived.Outline
import Derived.WalkSpells
import Derived.WalkLawsBesides
set_option linter.all false
namespace Go.Proofs.Ytlkaeonedijfpaa
open Go.RowKit C
/-! ### bytes -/
def u8v (c : UInt8) : Value := .int .u8 (c.toNat : Int)
theorem u8_one (l : Bs) : ∀ u ∈ l.map u8v, u.oneCell' = true := by
  intro u hu
  obtain ⟨z, _, rfl⟩ := List.mem_map.1 hu
  rfl
theorem infoB : (Try.prog.info? 5).map (fun i => (i.zero, i.size, i.bytes)) = some (some (.int .u8 0), 1, 1) := by kernel_rfl
def OwnB (base : Nat) (w : World) (v : Value) (l : Bs) : Prop := w.ownsRow base 5 1 v l.length (l.map u8v)
theorem grown_trans {w w1 w2 : World} {r r1 : Option Nat} (h : w.grownBy w1 r) (h1 : w1.grownBy w2 r1) (hr : ∀ k, r1 = some k → r = some k ∨ w.heap.size ≤ k) : w.grownBy w2 r :=
  ⟨h1.os.trans h.os, h1.tape.trans h.tape, h1.output.trans h.output, Nat.le_trans h.size h1.size, fun k hk hne => by
    rw [h1.block k (by have := h.size; omega) (fun e => by rcases hr k e.symm with e2 | e2; exact hne e2.symm; omega), h.block k hk hne]⟩
/-- What becomes of the world while a row grows. -/
structure Gr (w : World) (v : Value) (w' : World) (v' : Value) : Prop where
  g : w.grownBy w' v.ownBlock
  at' : ∀ b, v'.ownBlock = some b → v.ownBlock = some b ∨ w.heap.size ≤ b
theorem Gr.refl (w : World) (v : Value) : Gr w v w v := ⟨⟨rfl, rfl, rfl, Nat.le_refl _, fun _ _ _ => rfl⟩, fun b h => .inl h⟩
theorem Gr.trans {w w1 w2 : World} {v v1 v2 : Value} (h : Gr w v w1 v1) (h1 : Gr w1 v1 w2 v2) : Gr w v w2 v2 :=
  ⟨grown_trans h.g h1.g fun k hk => h.at' k hk, fun b hb => by
    rcases h1.at' b hb with e | e
    · exact h.at' b e
    · exact .inr (Nat.le_trans h.g.size e)⟩
theorem Gr.alloc {w w1 : World} {v v1 : Value} (h : Gr w v w1 v1) (o : Obj) : Gr w v (w1.alloc o) v1 :=
  h.trans ⟨World.grownBy_alloc _ _ _, fun b hb => .inl hb⟩
theorem Gr.pre {w w1 : World} {v v1 : Value} {o : Obj} (h : Gr (w.alloc o) v w1 v1) : Gr w v w1 v1 := ((Gr.refl w v).alloc o).trans h
theorem Gr.keep {w w' : World} {v v' : Value} (h : Gr w v w' v') {b : Nat} (hb : b < w.heap.size) (hne : v.ownBlock ≠ some b) : w'.heap[b]? = w.heap[b]? ∧ v'.ownBlock ≠ some b :=
  ⟨h.g.block b hb (fun e => hne e.symm), fun e => by rcases h.at' b e with e2 | e2; exact hne e2; omega⟩
theorem Gr.below {w w' : World} {v v' : Value} {base : Nat} (h : Gr w v w' v') (hb : base ≤ w.heap.size) (hv : ∀ k, v.ownBlock = some k → base ≤ k) : Below base w w' := (Below.refl _ _).grown h.g hb hv
theorem Gr.of {w w' : World} {v v' : Value} {g : Nat} (hg : w.grownBy w' v.ownBlock) (hat : v.ownBlock = some g ∨ g = w.heap.size) (hv : v'.ownBlock = some g) : Gr w v w' v' :=
  ⟨hg, fun b hb => by rw [hv] at hb; obtain rfl : g = b := by simpa using hb
                      rcases hat with e | e
                      · exact .inl e
                      · exact .inr (by omega)⟩
def App (base : Nat) (w : World) (v : Value) (l : Bs) (e : Ending) (w' : World) : Prop := ∃ v', e = .returned v' ∧ OwnB base w' v' l ∧ Gr w v w' v'
theorem OwnB.alloc {base : Nat} {w : World} {v : Value} {l : Bs} (h : OwnB base w v l) (o : Obj) : OwnB base (w.alloc o) v l := World.ownsRow.alloc h o
theorem OwnB.nil (base : Nat) (w : World) : OwnB base w (.slice none 0 0) [] := World.ownsRow_nil _ _ _ _
/-! ### numbers -/
theorem wrap_u64 (n : Int) : IntKind.u64.wrap n = n % 18446744073709551616 := by simp [IntKind.wrap, IntKind.bits, IntKind.signed]
theorem zig_neg {n : Int} (h : C.I64 n) (hn : n < 0) : 18446744073709551615 - (n % 18446744073709551616 * 2 % 18446744073709551616) = (zig n : Int) := by
  unfold zig; unfold C.I64 at h; rw [if_pos hn]; omega
theorem zig_pos {n : Int} (h : C.I64 n) (hn : ¬ n < 0) : n % 18446744073709551616 * 2 % 18446744073709551616 = (zig n : Int) := by
  unfold zig; unfold C.I64 at h; rw [if_neg hn]; omega
theorem not_u64 {x : Int} (h0 : 0 ≤ x) (h1 : x < 18446744073709551616) : bits BinOp.xor IntKind.u64 IntKind.u64.max x = 18446744073709551615 - x := by
  obtain ⟨n, rfl⟩ := Int.eq_ofNat_of_zero_le h0
  have hn : n < 18446744073709551616 := by omega
  have e : IntKind.u64.max = ((18446744073709551615 : Nat) : Int) := by decide
  rw [e, bits_xor_u64_nat _ _ (by omega) hn]
  have h2 : (BitVec.allOnes 64 ^^^ BitVec.ofNat 64 n).toNat = 2 ^ 64 - 1 - n := by
    rw [BitVec.allOnes_xor, BitVec.toNat_not, BitVec.toNat_ofNat, Nat.mod_eq_of_lt hn]
  rw [BitVec.toNat_xor, BitVec.toNat_allOnes, BitVec.toNat_ofNat, Nat.mod_eq_of_lt hn] at h2
  have h3 : 18446744073709551615 ^^^ n = 18446744073709551615 - n := h2
  rw [h3]; omega
set_option maxRecDepth 100000 in
theorem or_128 (u : Nat) : bits BinOp.or IntKind.u8 ((u : Int) % 256) 128 = ((UInt8.ofNat (u % 128 + 128)).toNat : Int) := by
  rw [show ((u : Int) % 256) = ((u % 256 : Nat) : Int) by omega, show (128 : Int) = ((128 : Nat) : Int) by rfl, u8_or_nat _ _ (by omega) (by omega), u8_nat (by omega)]
  have : ∀ x : Fin 256, x.val ||| 128 = x.val % 128 + 128 := by decide
  have h := this ⟨u % 256, by omega⟩
  simp only at h
  rw [h]; omega
theorem low_u8 {u : Nat} (h : u < 128) : (u : Int) % 256 = ((UInt8.ofNat u).toNat : Int) := by
  rw [u8_nat (by omega)]; omega
/-- Bytes of the call's own, or those of a constant. -/
def Cst (base : Nat) (w : World) (v : Value) (l : Bs) : Prop := ∃ g fz, v = .slice (some ⟨g, 0, none⟩) l.length l.length ∧ base ≤ g ∧ w.heap[g]? = some (.cells (l.map u8v).toArray 5 fz)
def OwnX (base : Nat) (w : World) (v : Value) (l : Bs) : Prop := OwnB base w v l ∨ Cst base w v l
theorem OwnX.lt {base : Nat} {w : World} {v : Value} {l : Bs} (h : OwnX base w v l) : ∀ k, v.ownBlock = some k → base ≤ k ∧ k < w.heap.size := by
  intro k hk
  rcases h with h | ⟨g, fz, rfl, hb, hg⟩
  · exact World.ownsRow.lt h k hk
  · obtain rfl : g = k := by simpa [Value.ownBlock] using hk
    exact ⟨hb, (Array.getElem?_eq_some_iff.1 hg).1⟩
theorem OwnX.alloc {base : Nat} {w : World} {v : Value} {l : Bs} (h : OwnX base w v l) (o : Obj) : OwnX base (w.alloc o) v l := by
  rcases h with h | ⟨g, fz, rfl, hb, hg⟩
  · exact .inl (World.ownsRow.alloc h o)
  · exact .inr ⟨g, fz, rfl, hb, (heap_alloc_old w o (Array.getElem?_eq_some_iff.1 hg).1).trans hg⟩
theorem run_append_x {P : Program} (w : World) (t ty : TypeId) (base : Nat) (i : TypeInfo) (ht : P.underlying t = some (.slice 5)) (hi : P.info? 5 = some i) (hz : i.zero = some (.int .u8 0))
    (hsize : i.size = 1) (hby : i.bytes = 1) (v : Value) (l : Bs) (hown : OwnX base w v l) (n : Nat) (hnl : l.length = n)
    (ad : Addr) (m c : Nat) (news : List Value) (hl : news.length = m * 1) (hnews : ∀ j u, news[j]? = some u → w.cell? (ad.add j) = some u) (h1 : ∀ u ∈ news, u.oneCell' = true)
    (hm : 0 < m) (h63 : n + m ≤ maxLen) (hbytes : (n + m) * 1 ≤ 140737488355328) (hbase : base ≤ w.heap.size) (H : Nat) (hH : w.heap.size = H) :
    ∃ g cap w', (Builtin.append_ #[t, t] ty #[v, .slice (some ad) m c]).run P w = .ok (.slice (some ⟨g, 0, none⟩) (n + m) cap) w' ∧
      w'.ownsRow base 5 1 (.slice (some ⟨g, 0, none⟩) (n + m) cap) (n + m) (l.map u8v ++ news) ∧ w.grownBy w' v.ownBlock ∧ (v.ownBlock = some g ∨ g = H) ∧ g < w'.heap.size := by
  subst hnl
  rcases hown with h | ⟨g, fz, rfl, hb, hg⟩
  · exact run_append_lies w t ty base 5 i _ 1 1 ht hi hz hsize hby rfl (by omega) v l.length (l.map u8v) h ad m c news hl hnews h1 hm h63 hbytes hbase H hH
  · have holds : ∀ j u, (l.map u8v)[j]? = some u → w.cell? ((⟨g, 0, none⟩ : Addr).add j) = some u := by
      have := World.news_of_block hg
      simpa using this
    unfold maxLen at h63
    have hr := run_append_grow (P := P) w t ty 5 i _ ht hi hz ⟨g, 0, none⟩ l.length l.length (l.map u8v) (by rw [hsize]; simp) holds ad m c news (by rw [hsize]; exact hl) hnews (by omega) (by omega) (by rw [hby]; exact growslice_fits (by omega) (by omega))
    have hge := grownCap_ge w (l.length + m) l.length 5
    have hcm2 : grownCap w (l.length + m) l.length 5 ≤ maxLen := grownCap_le_maxLen w (l.length + m) l.length 5 (by unfold maxLen; omega)
    have hlen : (l.map u8v ++ news).length = (l.length + m) * 1 := by rw [List.length_append, List.length_map, hl]; omega
    refine ⟨_, _, _, hr, ⟨hlen, .inr ⟨w.heap.size, _, _, rfl, hbase, heap_alloc_new w.drew _, hge, hcm2, ?_, ?_⟩⟩, ⟨rfl, rfl, rfl, by simp, fun k hk _ => heap_alloc_old w.drew _ hk⟩, .inr hH, by simp⟩
    · have hz1 : (Value.int IntKind.u8 0).cells.size = 1 := rfl
      simp only [Array.size_append, List.size_toArray, size_zeroCells, hz1, List.length_map, hl]
      omega
    · simp only [Array.toList_append, List.append_assoc]
      rw [← List.append_assoc, ← hlen]
      exact List.take_left
theorem wpList_append_x {P : Program} (w : World) {ops : Array Oper} {rest : List Oper} {o : Oper} {a : Act} {Q : Exit → Act → World → Prop} (hgd : o.guard = none) (s x : Operand) (t : TypeId)
    (ho : o.op = .call { callee := .builtin .append, args := #[s, x], argTypes := #[t, t] })
    (base : Nat) (i : TypeInfo) (ht : P.underlying t = some (.slice 5)) (hi : P.info? 5 = some i) (hz : i.zero = some (.int .u8 0))
    (hsize : i.size = 1) (hby : i.bytes = 1) (v : Value) (l : Bs) (hs : a.eval s = v) (hown : OwnX base w v l) (n : Nat) (hnl : l.length = n)
    (ad : Addr) (m c : Nat) (news : List Value) (hx : a.eval x = .slice (some ad) m c) (hl : news.length = m * 1) (hnews : ∀ j u, news[j]? = some u → w.cell? (ad.add j) = some u) (h1 : ∀ u ∈ news, u.oneCell' = true)
    (hm : 0 < m) (h63 : n + m ≤ maxLen) (hbytes : (n + m) * 1 ≤ 140737488355328) (hbase : base ≤ w.heap.size) (H : Nat) (hH : w.heap.size = H)
    (h : ∀ g cap w', w'.ownsRow base 5 1 (.slice (some ⟨g, 0, none⟩) (n + m) cap) (n + m) (l.map u8v ++ news) → w.grownBy w' v.ownBlock → (v.ownBlock = some g ∨ g = H) → g < w'.heap.size → wpList P ops Q rest (a.put o.dst (.slice (some ⟨g, 0, none⟩) (n + m) cap)) w') : wpList P ops Q (o :: rest) a w := by
  refine wpList_plain hgd fun K hK => ?_
  obtain ⟨g, cap, w', hr, h2, h3, h4, h5⟩ := run_append_x (P := P) w t o.type base i ht hi hz hsize hby v l hown n hnl ad m c news hl hnews h1 hm h63 hbytes hbase H hH
  unfold Oper.wp execOp
  simp only [ho, resolve, invoke, builtin, Sem.run_bind, Sem.run_pure, Result.andThen_ok, List.map_toArray, List.map_cons, List.map_nil, hs, hx, hr]
  exact hK _ _ (h g cap w' h2 h3 h4 h5)
/-- One byte onto a row of the call's own. -/
theorem OwnB.snoc {base n : Nat} {w : World} {v : Value} {l : Bs} {c : UInt8} (h : w.ownsRow base 5 1 v n (l.map u8v ++ [u8v c])) (hn : n = l.length + 1) : OwnB base w v (l ++ [c]) := by
  unfold OwnB
  rw [List.length_append, List.map_append]
  subst hn
  exact h
set_option maxRecDepth 100000 in
set_option maxHeartbeats 1000000 in
theorem onum_x (base : Nat) (v : Value) (l : Bs) (n : Int) (w : World) (h : OwnX base w v l) (hb : base ≤ w.heap.size) (hl : l.length ≤ 70368744177664) (hn : C.I64 n) :
    Calls Try.prog 44 #[v, .int .i64 n] w (App base w v (l ++ numE n)) := by
  have hz := zig_lt hn
  have hgl := groups_len hz
  have HO := Lib.hid h
  obtain ⟨i0, hi, hz0, hz1, hz2⟩ := info_parts infoB
  by_cases hneg : n < 0
  · have hx : bits BinOp.xor IntKind.u64 IntKind.u64.max (IntKind.u64.wrap (IntKind.u64.wrap n * 2)) = (zig n : Int) := by
      rw [wrap_u64, wrap_u64, not_u64 (by omega) (by omega), zig_neg hn hneg]
    clear h hn
    go_enter Try.func44, Try.ntmps44
    go_wp2
    clear hx
    go_loopw [0, 5] (fun s0 s5 wr => ∃ (u : Nat) (acc : Bs), s5 = .int .u64 (u : Int) ∧ OwnX base wr s0 (l ++ acc) ∧ groups (zig n) = acc ++ groups u ∧ u < 18446744073709551616 ∧ Gr w v wr s0) (fun _ s5 _ => (intOf s5).toNat)
    case atStart => exact ⟨zig n, [], rfl, by rw [List.append_nil]; exact HO.out, rfl, hz, Gr.refl _ _⟩
    case round =>
      obtain ⟨u, acc, rfl, ho, hacc, hu, hgr⟩ := hrel
      have hge := hgr.g.size
      obtain ⟨m, hm⟩ : ∃ m, (l ++ acc).length = m := ⟨_, rfl⟩
      have hle : m ≤ l.length + 10 := by have := congrArg List.length hacc; rw [List.length_append] at this hm; omega
      have HA := Lib.hid hacc
      have HG := Lib.hid hgr
      have HOa := Lib.hid ho
      have HM := Lib.hid hm
      clear hacc hgr ho hm
      by_cases hu1 : 128 ≤ u
      · have hu2 : (128 : Int) ≤ (u : Int) := by omega
        obtain ⟨c, hc⟩ : ∃ c, c = UInt8.ofNat (u % 128 + 128) := ⟨_, rfl⟩
        have hor := or_128 u
        rw [← hc] at hor
        have HC := Lib.hid hc
        clear hc
        go_wp2_with (at_builtin; refine wpList_append_x _ rfl _ _ _ rfl base i0 Try.underlying22 hi hz0 hz1 hz2 u0 (l ++ acc) rfl (HOa.out.alloc _) m HM.out ⟨wr.heap.size, 0, none⟩ 1 1 [u8v c] rfl rfl (World.news_of_block (cs := #[u8v c]) (t := 5) (fr := (0, 0)) (heap_alloc_new wr _)) (by simp [Value.oneCell', u8v]) (by omega) (by unfold maxLen; omega) (by omega) (by simp; omega) (wr.heap.size + 1) (by simp) ?_; intro g1 cap1 w4 hown1 hgr1 hat1 hlt1)
        have hgg := hgr1.size
        go_roundw
        case rel => exact ⟨u / 128, acc ++ [c], by first | rfl | go_num, by rw [← List.append_assoc]; exact .inl (OwnB.snoc hown1 (by rw [HM.out])), by rw [HA.out, groups_ge hu1, ← HC.out, List.append_assoc]; rfl, by omega, HG.out.trans (((Gr.refl _ _).alloc _).trans (Gr.of hgr1 (by simpa using hat1) rfl))⟩
        case measure => simp [intOf]; omega
      · have hu2 : (u : Int) < 128 := by omega
        obtain ⟨c, hc⟩ : ∃ c, c = UInt8.ofNat u := ⟨_, rfl⟩
        have HV : Hid (Value.int .u8 (u : Int) = u8v c) := Lib.hid (by unfold u8v; rw [hc, u8_nat (by omega)])
        have HC := Lib.hid hc
        clear hc
        go_wp2_with (at_builtin; refine wpList_append_x _ rfl _ _ _ rfl base i0 Try.underlying22 hi hz0 hz1 hz2 u0 (l ++ acc) rfl (HOa.out.alloc _) m HM.out ⟨wr.heap.size, 0, none⟩ 1 1 [.int .u8 (u : Int)] rfl rfl (World.news_of_block (cs := #[.int .u8 (u : Int)]) (t := 5) (fr := (0, 0)) (heap_alloc_new wr _)) (by simp [Value.oneCell', u8v]) (by omega) (by unfold maxLen; omega) (by omega) (by simp; omega) (wr.heap.size + 1) (by simp) ?_; intro g1 cap1 w4 hown1 hgr1 hat1 hlt1)
        have hgg := hgr1.size
        rw [HV.out] at hown1
        go_ret
        exact ⟨_, rfl, by unfold numE; rw [HA.out, groups_lt (by omega), ← HC.out, ← List.append_assoc]; exact OwnB.snoc hown1 (by rw [HM.out]), HG.out.trans (((Gr.refl _ _).alloc _).trans (Gr.of hgr1 (by simpa using hat1) rfl))⟩
  · have hx : IntKind.u64.wrap (IntKind.u64.wrap n * 2) = (zig n : Int) := by
      rw [wrap_u64, wrap_u64, zig_pos hn hneg]
    clear h hn
    go_enter Try.func44, Try.ntmps44
    go_wp2
    clear hx
    go_loopw [0, 5] (fun s0 s5 wr => ∃ (u : Nat) (acc : Bs), s5 = .int .u64 (u : Int) ∧ OwnX base wr s0 (l ++ acc) ∧ groups (zig n) = acc ++ groups u ∧ u < 18446744073709551616 ∧ Gr w v wr s0) (fun _ s5 _ => (intOf s5).toNat)
    case atStart => exact ⟨zig n, [], rfl, by rw [List.append_nil]; exact HO.out, rfl, hz, Gr.refl _ _⟩
    case round =>
      obtain ⟨u, acc, rfl, ho, hacc, hu, hgr⟩ := hrel
      have hge := hgr.g.size
      obtain ⟨m, hm⟩ : ∃ m, (l ++ acc).length = m := ⟨_, rfl⟩
      have hle : m ≤ l.length + 10 := by have := congrArg List.length hacc; rw [List.length_append] at this hm; omega
      have HA := Lib.hid hacc
      have HG := Lib.hid hgr
      have HOa := Lib.hid ho
      have HM := Lib.hid hm
      clear hacc hgr ho hm
      by_cases hu1 : 128 ≤ u
      · have hu2 : (128 : Int) ≤ (u : Int) := by omega
        obtain ⟨c, hc⟩ : ∃ c, c = UInt8.ofNat (u % 128 + 128) := ⟨_, rfl⟩
        have hor := or_128 u
        rw [← hc] at hor
        have HC := Lib.hid hc
        clear hc
        go_wp2_with (at_builtin; refine wpList_append_x _ rfl _ _ _ rfl base i0 Try.underlying22 hi hz0 hz1 hz2 u0 (l ++ acc) rfl (HOa.out.alloc _) m HM.out ⟨wr.heap.size, 0, none⟩ 1 1 [u8v c] rfl rfl (World.news_of_block (cs := #[u8v c]) (t := 5) (fr := (0, 0)) (heap_alloc_new wr _)) (by simp [Value.oneCell', u8v]) (by omega) (by unfold maxLen; omega) (by omega) (by simp; omega) (wr.heap.size + 1) (by simp) ?_; intro g1 cap1 w4 hown1 hgr1 hat1 hlt1)
        have hgg := hgr1.size
        go_roundw
        case rel => exact ⟨u / 128, acc ++ [c], by first | rfl | go_num, by rw [← List.append_assoc]; exact .inl (OwnB.snoc hown1 (by rw [HM.out])), by rw [HA.out, groups_ge hu1, ← HC.out, List.append_assoc]; rfl, by omega, HG.out.trans (((Gr.refl _ _).alloc _).trans (Gr.of hgr1 (by simpa using hat1) rfl))⟩
        case measure => simp [intOf]; omega
      · have hu2 : (u : Int) < 128 := by omega
        obtain ⟨c, hc⟩ : ∃ c, c = UInt8.ofNat u := ⟨_, rfl⟩
        have HV : Hid (Value.int .u8 (u : Int) = u8v c) := Lib.hid (by unfold u8v; rw [hc, u8_nat (by omega)])
        have HC := Lib.hid hc
        clear hc
        go_wp2_with (at_builtin; refine wpList_append_x _ rfl _ _ _ rfl base i0 Try.underlying22 hi hz0 hz1 hz2 u0 (l ++ acc) rfl (HOa.out.alloc _) m HM.out ⟨wr.heap.size, 0, none⟩ 1 1 [.int .u8 (u : Int)] rfl rfl (World.news_of_block (cs := #[.int .u8 (u : Int)]) (t := 5) (fr := (0, 0)) (heap_alloc_new wr _)) (by simp [Value.oneCell', u8v]) (by omega) (by unfold maxLen; omega) (by omega) (by simp; omega) (wr.heap.size + 1) (by simp) ?_; intro g1 cap1 w4 hown1 hgr1 hat1 hlt1)
        have hgg := hgr1.size
        rw [HV.out] at hown1
        go_ret
        exact ⟨_, rfl, by unfold numE; rw [HA.out, groups_lt (by omega), ← HC.out, ← List.append_assoc]; exact OwnB.snoc hown1 (by rw [HM.out]), HG.out.trans (((Gr.refl _ _).alloc _).trans (Gr.of hgr1 (by simpa using hat1) rfl))⟩
theorem onum_loop (base : Nat) (v : Value) (l : Bs) (n : Int) (w : World) (h : OwnB base w v l) (hb : base ≤ w.heap.size) (hl : l.length ≤ 70368744177664) (hn : C.I64 n) :
    Calls Try.prog 44 #[v, .int .i64 n] w (App base w v (l ++ numE n)) := onum_x base v l n w (.inl h) hb hl hn
end Go.Proofs.Ytlkaeonedijfpaa

namespace Go.Proofs.Ytlkaeonedijfpaa
open Go.RowKit C
theorem add_128 (u : Nat) : IntKind.u8.wrap ((u : Int) % 128 + 128) = ((UInt8.ofNat (u % 128 + 128)).toNat : Int) := by
  rw [IntKind.wrap_u8, u8_nat (by omega)]; omega
set_option maxRecDepth 100000 in
set_option maxHeartbeats 1000000 in
theorem qnum_x (base : Nat) (v : Value) (l : Bs) (n : Int) (w : World) (h : OwnX base w v l) (hb : base ≤ w.heap.size) (hl : l.length ≤ 70368744177664) (hn : C.I64 n) :
    Calls Try.prog 31 #[v, .int .i64 n] w (App base w v (l ++ numE n)) := by
  have hz := zig_lt hn
  have hgl := groups_len hz
  have HO := Lib.hid h
  obtain ⟨i0, hi, hz0, hz1, hz2⟩ := info_parts infoB
  by_cases hneg : n < 0
  · have hx : bits BinOp.xor IntKind.u64 IntKind.u64.max (IntKind.u64.wrap (IntKind.u64.wrap n * 2)) = (zig n : Int) := by
      rw [wrap_u64, wrap_u64, not_u64 (by omega) (by omega), zig_neg hn hneg]
    clear h hn
    go_enter Try.func31, Try.ntmps31
    go_wp2
    clear hx
    go_loopw [0, 5] (fun s0 s5 wr => ∃ (u : Nat) (acc : Bs), s5 = .int .u64 (u : Int) ∧ OwnX base wr s0 (l ++ acc) ∧ groups (zig n) = acc ++ groups u ∧ u < 18446744073709551616 ∧ Gr w v wr s0) (fun _ s5 _ => (intOf s5).toNat)
    case atStart => exact ⟨zig n, [], rfl, by rw [List.append_nil]; exact HO.out, rfl, hz, Gr.refl _ _⟩
    case round =>
      obtain ⟨u, acc, rfl, ho, hacc, hu, hgr⟩ := hrel
      have hge := hgr.g.size
      obtain ⟨m, hm⟩ : ∃ m, (l ++ acc).length = m := ⟨_, rfl⟩
      have hle : m ≤ l.length + 10 := by have := congrArg List.length hacc; rw [List.length_append] at this hm; omega
      have HA := Lib.hid hacc
      have HG := Lib.hid hgr
      have HOa := Lib.hid ho
      have HM := Lib.hid hm
      clear hacc hgr ho hm
      by_cases hu1 : 128 ≤ u
      · have hu2 : (128 : Int) ≤ (u : Int) := by omega
        obtain ⟨c, hc⟩ : ∃ c, c = UInt8.ofNat (u % 128 + 128) := ⟨_, rfl⟩
        have hor := add_128 u
        rw [← hc] at hor
        have HC := Lib.hid hc
        clear hc
        go_wp2_with (at_builtin; refine wpList_append_x _ rfl _ _ _ rfl base i0 Try.underlying22 hi hz0 hz1 hz2 u0 (l ++ acc) rfl (HOa.out.alloc _) m HM.out ⟨wr.heap.size, 0, none⟩ 1 1 [u8v c] rfl rfl (World.news_of_block (cs := #[u8v c]) (t := 5) (fr := (0, 0)) (heap_alloc_new wr _)) (by simp [Value.oneCell', u8v]) (by omega) (by unfold maxLen; omega) (by omega) (by simp; omega) (wr.heap.size + 1) (by simp) ?_; intro g1 cap1 w4 hown1 hgr1 hat1 hlt1)
        have hgg := hgr1.size
        go_roundw
        case rel => exact ⟨u / 128, acc ++ [c], by first | rfl | go_num, by rw [← List.append_assoc]; exact .inl (OwnB.snoc hown1 (by rw [HM.out])), by rw [HA.out, groups_ge hu1, ← HC.out, List.append_assoc]; rfl, by omega, HG.out.trans (((Gr.refl _ _).alloc _).trans (Gr.of hgr1 (by simpa using hat1) rfl))⟩
        case measure => simp [intOf]; omega
      · have hu2 : (u : Int) < 128 := by omega
        obtain ⟨c, hc⟩ : ∃ c, c = UInt8.ofNat u := ⟨_, rfl⟩
        have HV : Hid (Value.int .u8 (u : Int) = u8v c) := Lib.hid (by unfold u8v; rw [hc, u8_nat (by omega)])
        have HC := Lib.hid hc
        clear hc
        go_wp2_with (at_builtin; refine wpList_append_x _ rfl _ _ _ rfl base i0 Try.underlying22 hi hz0 hz1 hz2 u0 (l ++ acc) rfl (HOa.out.alloc _) m HM.out ⟨wr.heap.size, 0, none⟩ 1 1 [.int .u8 (u : Int)] rfl rfl (World.news_of_block (cs := #[.int .u8 (u : Int)]) (t := 5) (fr := (0, 0)) (heap_alloc_new wr _)) (by simp [Value.oneCell', u8v]) (by omega) (by unfold maxLen; omega) (by omega) (by simp; omega) (wr.heap.size + 1) (by simp) ?_; intro g1 cap1 w4 hown1 hgr1 hat1 hlt1)
        have hgg := hgr1.size
        rw [HV.out] at hown1
        go_ret
        exact ⟨_, rfl, by unfold numE; rw [HA.out, groups_lt (by omega), ← HC.out, ← List.append_assoc]; exact OwnB.snoc hown1 (by rw [HM.out]), HG.out.trans (((Gr.refl _ _).alloc _).trans (Gr.of hgr1 (by simpa using hat1) rfl))⟩
  · have hx : IntKind.u64.wrap (IntKind.u64.wrap n * 2) = (zig n : Int) := by
      rw [wrap_u64, wrap_u64, zig_pos hn hneg]
    clear h hn
    go_enter Try.func31, Try.ntmps31
    go_wp2
    clear hx
    go_loopw [0, 5] (fun s0 s5 wr => ∃ (u : Nat) (acc : Bs), s5 = .int .u64 (u : Int) ∧ OwnX base wr s0 (l ++ acc) ∧ groups (zig n) = acc ++ groups u ∧ u < 18446744073709551616 ∧ Gr w v wr s0) (fun _ s5 _ => (intOf s5).toNat)
    case atStart => exact ⟨zig n, [], rfl, by rw [List.append_nil]; exact HO.out, rfl, hz, Gr.refl _ _⟩
    case round =>
      obtain ⟨u, acc, rfl, ho, hacc, hu, hgr⟩ := hrel
      have hge := hgr.g.size
      obtain ⟨m, hm⟩ : ∃ m, (l ++ acc).length = m := ⟨_, rfl⟩
      have hle : m ≤ l.length + 10 := by have := congrArg List.length hacc; rw [List.length_append] at this hm; omega
      have HA := Lib.hid hacc
      have HG := Lib.hid hgr
      have HOa := Lib.hid ho
      have HM := Lib.hid hm
      clear hacc hgr ho hm
      by_cases hu1 : 128 ≤ u
      · have hu2 : (128 : Int) ≤ (u : Int) := by omega
        obtain ⟨c, hc⟩ : ∃ c, c = UInt8.ofNat (u % 128 + 128) := ⟨_, rfl⟩
        have hor := add_128 u
        rw [← hc] at hor
        have HC := Lib.hid hc
        clear hc
        go_wp2_with (at_builtin; refine wpList_append_x _ rfl _ _ _ rfl base i0 Try.underlying22 hi hz0 hz1 hz2 u0 (l ++ acc) rfl (HOa.out.alloc _) m HM.out ⟨wr.heap.size, 0, none⟩ 1 1 [u8v c] rfl rfl (World.news_of_block (cs := #[u8v c]) (t := 5) (fr := (0, 0)) (heap_alloc_new wr _)) (by simp [Value.oneCell', u8v]) (by omega) (by unfold maxLen; omega) (by omega) (by simp; omega) (wr.heap.size + 1) (by simp) ?_; intro g1 cap1 w4 hown1 hgr1 hat1 hlt1)
        have hgg := hgr1.size
        go_roundw
        case rel => exact ⟨u / 128, acc ++ [c], by first | rfl | go_num, by rw [← List.append_assoc]; exact .inl (OwnB.snoc hown1 (by rw [HM.out])), by rw [HA.out, groups_ge hu1, ← HC.out, List.append_assoc]; rfl, by omega, HG.out.trans (((Gr.refl _ _).alloc _).trans (Gr.of hgr1 (by simpa using hat1) rfl))⟩
        case measure => simp [intOf]; omega
      · have hu2 : (u : Int) < 128 := by omega
        obtain ⟨c, hc⟩ : ∃ c, c = UInt8.ofNat u := ⟨_, rfl⟩
        have HV : Hid (Value.int .u8 (u : Int) = u8v c) := Lib.hid (by unfold u8v; rw [hc, u8_nat (by omega)])
        have HC := Lib.hid hc
        clear hc
        go_wp2_with (at_builtin; refine wpList_append_x _ rfl _ _ _ rfl base i0 Try.underlying22 hi hz0 hz1 hz2 u0 (l ++ acc) rfl (HOa.out.alloc _) m HM.out ⟨wr.heap.size, 0, none⟩ 1 1 [.int .u8 (u : Int)] rfl rfl (World.news_of_block (cs := #[.int .u8 (u : Int)]) (t := 5) (fr := (0, 0)) (heap_alloc_new wr _)) (by simp [Value.oneCell', u8v]) (by omega) (by unfold maxLen; omega) (by omega) (by simp; omega) (wr.heap.size + 1) (by simp) ?_; intro g1 cap1 w4 hown1 hgr1 hat1 hlt1)
        have hgg := hgr1.size
        rw [HV.out] at hown1
        go_ret
        exact ⟨_, rfl, by unfold numE; rw [HA.out, groups_lt (by omega), ← HC.out, ← List.append_assoc]; exact OwnB.snoc hown1 (by rw [HM.out]), HG.out.trans (((Gr.refl _ _).alloc _).trans (Gr.of hgr1 (by simpa using hat1) rfl))⟩
theorem qnum_loop (base : Nat) (v : Value) (l : Bs) (n : Int) (w : World) (h : OwnB base w v l) (hb : base ≤ w.heap.size) (hl : l.length ≤ 70368744177664) (hn : C.I64 n) :
    Calls Try.prog 31 #[v, .int .i64 n] w (App base w v (l ++ numE n)) := qnum_x base v l n w (.inl h) hb hl hn
end Go.Proofs.Ytlkaeonedijfpaa
