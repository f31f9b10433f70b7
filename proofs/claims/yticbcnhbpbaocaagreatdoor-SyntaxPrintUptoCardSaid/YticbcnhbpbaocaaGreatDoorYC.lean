/-
  The specification's printer: digits.
  The specification's printer: integers, blocks, lines, calls.
  The specification's printer: calls.
  The specification's printer: select.
-/
import Derived.Test.YticbcnhbpbaocaaGreatDoorYA
import Derived.Laws.IdiomStrings
import Derived.Test.YticbcnhbpbaocaaGreatDoorCB
import Derived.Test.YticbcnhbpbaocaaGreatDoorRE
set_option linter.all false
namespace Go.Proofs.YticbcnhbpbaocaaGreatDoor
open Go.RowKit T T.Fo
set_option linter.all false
theorem byte_at1 (W : World) (b : Nat) (x : UInt8) (hb : W.heap[b]? = some (.cells #[.int .u8 (x.toNat : Int)] 5 (0, 0))) : (convert 48 9 (.slice (some ⟨b, 0, none⟩) 1 1)).run Tryz.prog W = .ok (.string ⟨#[x]⟩) W := by
  refine run_convert_bytes_back W 48 9 5 ⟨b, 0, none⟩ 1 [x] Tryz.underlying48 Tryz.underlying5 Tryz.underlying9 (fun j hj => ?_)
  have : j = 0 := by simpa using hj
  subst this
  have e : (⟨b, 0, none⟩ : Addr).add 0 = ⟨b, 0, none⟩ := rfl
  rw [e]
  simp [World.cell?, hb]
theorem byte_new1 (w : World) (x : UInt8) : (convert 48 9 (.slice (some ⟨w.heap.size, 0, none⟩) 1 1)).run Tryz.prog (w.alloc (.cells #[.int .u8 (x.toNat : Int)] 5)) = .ok (.string ⟨#[x]⟩) (w.alloc (.cells #[.int .u8 (x.toNat : Int)] 5)) := byte_at1 _ _ x (heap_alloc_new w _)
theorem dig_byte (k : Nat) (hk : k < 10) : IntKind.u8.wrap (48 + (k : Int)) = ((UInt8.ofNat (48 + k)).toNat : Int) := by
  have : (UInt8.ofNat (48 + k)).toNat = 48 + k := by simp [UInt8.toNat_ofNat]; omega
  rw [this]
  have h2 : IntKind.u8.wrap (48 + (k : Int)) = 48 + (k : Int) := by
    rcases (by omega : k = 0 ∨ k = 1 ∨ k = 2 ∨ k = 3 ∨ k = 4 ∨ k = 5 ∨ k = 6 ∨ k = 7 ∨ k = 8 ∨ k = 9) with rfl | rfl | rfl | rfl | rfl | rfl | rfl | rfl | rfl | rfl <;> decide
  rw [h2]; omega
set_option maxRecDepth 100000 in
set_option maxHeartbeats 8000000 in
theorem rdig_low (v : Nat) (hv : v < 10) (w : World) : RT 101 #[.int .i64 (v : Int)] w (tx (digs v)) := by
  have h1 : (v : Int) < 10 := by omega
  have h2 : ¬ (10 : Int) ≤ (v : Int) := by omega
  have hw : IntKind.i64.wrap (48 + (v : Int)) = 48 + (v : Int) := IntWalk.i64_in _ (by omega)
  have hb := dig_byte v hv
  have HD : Hid (digs v = [UInt8.ofNat (48 + v)]) := Lib.hid (by rw [digs, if_pos hv])
  obtain ⟨x, hx⟩ : ∃ x, UInt8.ofNat (48 + v) = x := ⟨_, rfl⟩
  rw [hx] at hb HD
  have ht := fun W => byte_new1 W x
  clear hv hx
  go_enter Tryz.func101, Tryz.ntmps101
  go_wp2
  go_ret
  exact ⟨str_fin (by rw [HD.out]), b1 _ _⟩
set_option maxRecDepth 100000 in
set_option maxHeartbeats 8000000 in
theorem rdig_any : ∀ (v : Nat), (v : Int) < 9223372036854775808 → ∀ w : World, RT 101 #[.int .i64 (v : Int)] w (tx (digs v)) := by
  intro v
  induction v using Nat.strongRecOn with
  | _ v ih =>
    intro hv w
    by_cases hl : v < 10
    · exact rdig_low v hl w
    have h1 : ¬ (v : Int) < 10 := by omega
    have h2 : (10 : Int) ≤ (v : Int) := by omega
    have HC0 : Hid (RA 101 #[.int .i64 ((v / 10 : Nat) : Int)] w (tx (digs (v / 10)))) := Lib.hid fun V _ => ih (v / 10) (by omega) (by omega) V
    have hb := dig_byte (v % 10) (by omega)
    have HD : Hid (digs v = digs (v / 10) ++ [UInt8.ofNat (48 + v % 10)]) := Lib.hid (by rw [digs, if_neg hl])
    obtain ⟨x, hx⟩ : ∃ x, UInt8.ofNat (48 + v % 10) = x := ⟨_, rfl⟩
    rw [hx] at hb HD
    have hlen : (digs (v / 10)).length ≤ 20 := digs_len 20 _ (by omega) (by have : (10 : Nat) ^ 20 = 100000000000000000000 := by decide
                                                                            omega)
    obtain ⟨y, hy⟩ : ∃ y, tx (digs (v / 10)) = y := ⟨_, rfl⟩
    have HY : Hid (digs (v / 10) = y.data.toList) := Lib.hid (by rw [← hy])
    rw [hy] at HC0
    have HC1 : Hid (∀ V, Below w.heap.size w V → Calls Tryz.prog 101 #[.int .i64 ((v / 10 : Nat) : Int)] V fun e w' => e = .returned (.string y) ∧ Below w.heap.size w w' ∧ Below V.heap.size V w') := Lib.hid fun V hV => (HC0.out V hV).mono fun e w' hq => ⟨hq.1, hV.trans (hq.2.mono hV.size), hq.2⟩
    have hz : y.size ≤ 20 := by have e := congrArg List.length HY.out; have e2 : y.data.toList.length = y.size := rfl; omega
    have z0 : ¬ 9223372036854775807 < y.size + 1 := by omega
    obtain ⟨q, hq⟩ : ∃ q : Nat, v / 10 = q := ⟨_, rfl⟩
    obtain ⟨m, hm⟩ : ∃ m : Nat, v % 10 = m := ⟨_, rfl⟩
    have e1 : (v : Int).tdiv 10 = (q : Int) := by rw [← hq]; exact (Int.ofNat_tdiv v 10).symm
    have e2 : (v : Int).tmod 10 = (m : Int) := by rw [← hm]; exact (Int.ofNat_tmod v 10).symm
    have w1 : IntKind.i64.wrap (q : Int) = (q : Int) := IntWalk.i64_in _ (by omega)
    have w2 : IntKind.i64.wrap (m : Int) = (m : Int) := IntWalk.i64_in _ (by omega)
    have w3 : IntKind.i64.wrap (48 + (m : Int)) = 48 + (m : Int) := IntWalk.i64_in _ (by omega)
    rw [hq] at HC1
    rw [hm] at hb
    have ht := fun W => byte_new1 W x
    have ha := fun W b h => byte_at1 W b x h
    have ht2 := fun W : World => byte_at1 (W.alloc (.cells #[.int .u8 (x.toNat : Int)] 5)).drew W.heap.size x (heap_alloc_new W _)
    have ht3 := fun W : World => byte_at1 (W.drew.alloc (.cells #[.int .u8 (x.toNat : Int)] 5)) W.heap.size x (heap_alloc_new W.drew _)
    have ht4 := fun W : World => byte_at1 (W.drew.alloc (.cells #[.int .u8 (x.toNat : Int)] 5)).drew W.heap.size x (heap_alloc_new W.drew _)
    clear HC0 hx ih hy hz hlen hq hm hv hl
    go_enter Tryz.func101, Tryz.ntmps101
    go_wp2_with fail
    go_region_law ((go_simp; go_at_call 101; (with_reducible refine (HC1.out _ ?_).mono ?_); (first | exact Below.refl _ _ | exact Below.drew (Below.refl _ _) | exact b1 _ _ | exact Below.drew (b1 _ _) | exact (Below.drew (Below.refl _ _)).alloc (by simp) _ | exact Below.drew ((Below.drew (Below.refl _ _)).alloc (by simp) _)); rintro e W2 ⟨rfl, hbe, hb⟩; have HBE := Lib.hid hbe; (try have hcv := ha W2 _ ((hb.block _ (by simp)).trans (heap_alloc_new _ _))); clear hb hbe))
    all_goals
      go_wp2
      go_ret
      exact ⟨str_fin (by rw [HD.out, HY.out]; simp), by first | exact HBE.out | exact Below.drew HBE.out | exact HBE.out.alloc HBE.out.size _ | exact Below.drew (HBE.out.alloc HBE.out.size _) | exact (Below.drew HBE.out).alloc HBE.out.size _⟩
end Go.Proofs.YticbcnhbpbaocaaGreatDoor

set_option linter.all false
namespace Go.Proofs.YticbcnhbpbaocaaGreatDoor
open Go.RowKit T T.Fo
set_option linter.all false
def LS (g o : Nat) (h0 : Hd) (A0 : Option Addr) (n0 c0 : Nat) (w w' : World) : Prop := w'.cell? ⟨g, o, none⟩ = some (.int .i64 h0.kind) ∧ w'.cell? ⟨g, o + 1, none⟩ = some (.string h0.text) ∧ w'.cell? ⟨g, o + 2, none⟩ = some (.int .i64 h0.num) ∧ w'.cell? ⟨g, o + 3, none⟩ = some (.int .i64 h0.pos) ∧ w'.cell? ⟨g, o + 4, none⟩ = some (.slice A0 n0 c0) ∧ w'.cell? ⟨g, o + 5, none⟩ = some (.int .i64 h0.tk) ∧ w'.cell? ⟨g, o + 6, none⟩ = some (.string h0.tn) ∧ w'.cell? ⟨g, o + 7, none⟩ = some (.int .i64 h0.ref) ∧ w'.cell? ⟨g, o + 8, none⟩ = some (.int .i64 h0.up) ∧ Below w.heap.size w w'
theorem LS.keep {g o : Nat} {h0 : Hd} {A0 : Option Addr} {n0 c0 : Nat} {w V w' : World} (h : LS g o h0 A0 n0 c0 w V) (hb : Below V.heap.size V w') : w'.cell? ⟨g, o, none⟩ = some (.int .i64 h0.kind) ∧ w'.cell? ⟨g, o + 1, none⟩ = some (.string h0.text) ∧ w'.cell? ⟨g, o + 2, none⟩ = some (.int .i64 h0.num) ∧ w'.cell? ⟨g, o + 3, none⟩ = some (.int .i64 h0.pos) ∧ w'.cell? ⟨g, o + 4, none⟩ = some (.slice A0 n0 c0) ∧ w'.cell? ⟨g, o + 5, none⟩ = some (.int .i64 h0.tk) ∧ w'.cell? ⟨g, o + 6, none⟩ = some (.string h0.tn) ∧ w'.cell? ⟨g, o + 7, none⟩ = some (.int .i64 h0.ref) ∧ w'.cell? ⟨g, o + 8, none⟩ = some (.int .i64 h0.up) ∧ Below w.heap.size w w' := by
  obtain ⟨x0, x1, x2, x3, x4, x5, x6, x7, x8, b⟩ := h
  exact ⟨xcell x0 hb, xcell x1 hb, xcell x2 hb, xcell x3 hb, xcell x4 hb, xcell x5 hb, xcell x6 hb, xcell x7 hb, xcell x8 hb, b.trans (hb.mono b.size)⟩
theorem LS.start {g o : Nat} {h0 : Hd} {A0 : Option Addr} {n0 c0 : Nat} {w V : World} (h : LS g o h0 A0 n0 c0 w V) : V.drew.cell? ⟨g, o, none⟩ = some (.int .i64 h0.kind) ∧ V.drew.cell? ⟨g, o + 1, none⟩ = some (.string h0.text) ∧ V.drew.cell? ⟨g, o + 2, none⟩ = some (.int .i64 h0.num) ∧ V.drew.cell? ⟨g, o + 3, none⟩ = some (.int .i64 h0.pos) ∧ V.drew.cell? ⟨g, o + 4, none⟩ = some (.slice A0 n0 c0) ∧ V.drew.cell? ⟨g, o + 5, none⟩ = some (.int .i64 h0.tk) ∧ V.drew.cell? ⟨g, o + 6, none⟩ = some (.string h0.tn) ∧ V.drew.cell? ⟨g, o + 7, none⟩ = some (.int .i64 h0.ref) ∧ V.drew.cell? ⟨g, o + 8, none⟩ = some (.int .i64 h0.up) ∧ Below w.heap.size w V.drew := by
  obtain ⟨x0, x1, x2, x3, x4, x5, x6, x7, x8, b⟩ := h
  exact ⟨x0, x1, x2, x3, x4, x5, x6, x7, x8, Below.drew b⟩
theorem LS.mk {g o : Nat} {h0 : Hd} {A0 : Option Addr} {n0 c0 : Nat} {w V : World} (k0 : At9 V g o h0 A0 n0 c0) (bl : Below w.heap.size w V) : LS g o h0 A0 n0 c0 w V := by
  obtain ⟨x0, x1, x2, x3, x4, x5, x6, x7, x8⟩ := k0
  exact ⟨x0, x1, x2, x3, x4, x5, x6, x7, x8, bl⟩
/-- The text of a row of trees. -/
def CL (f : FuncId) (d : Int) (F : Fo) (s : Bs) : Prop := ∀ (A : Option Addr) (cap : Nat) (w : World), Kids (Lt w.heap.size) w A F → RT f #[.slice A F.len cap, .int .i64 d] w (tx s)
theorem CL.at {f : FuncId} {d : Int} {F : Fo} {s : Bs} (H : CL f d F s) {A : Option Addr} {cap : Nat} {w : World} (hk : Kids (Lt w.heap.size) w A F) : RA f #[.slice A F.len cap, .int .i64 d] w (tx s) := fun V hV => H A cap V ((hk.below hV (Nat.le_refl _)).mono hV.size)
theorem tabs_ra (m : Nat) (hm : m ≤ 100) (w : World) : RA 77 #[.int .i64 (m : Int)] w (tx (T.tabs m)) := fun V _ => (rtabs_any m hm V).mono fun e w' hq => ⟨hq.1, hq.2 ▸ Below.refl _ _⟩
set_option maxRecDepth 100000 in
set_option maxHeartbeats 8000000 in
theorem rx_24 {d : Int} (t : ByteArray) (v : Nat) (p tk : Int) (tn : ByteArray) (r u : Int) (hv : (v : Int) < 9223372036854775808) : CX 75 d ⟨24, t, (v : Int), p, tk, tn, r, u⟩ .nil (digs v) := by
  intro A cap w hk
  show RT 75 #[.agg #[.int .i64 24, .string t, .int .i64 (v : Int), .int .i64 p, .slice A 0 cap, .int .i64 tk, .string tn, .int .i64 r, .int .i64 u], .int .i64 d] w _
  have HC : Hid (RA 101 #[.int .i64 (v : Int)] w (tx (digs v))) := Lib.hid fun V _ => rdig_any v hv V
  have HB0 : Hid (Below w.heap.size w (w.alloc (xo ⟨24, t, (v : Int), p, tk, tn, r, u⟩ A 0 cap))) := Lib.hid (b1 w _)
  clear hk hv
  go_enter Tryz.func75, Tryz.ntmps75
  go_wp2_with (go_at_call 101; (with_reducible refine (HC.out _ HB0.out).mono ?_); rintro e V ⟨rfl, hb⟩; have HB0 := Lib.hid (HB0.out.trans (hb.mono HB0.out.size)); clear hb)
  go_ret
  exact ⟨rfl, HB0.out⟩
set_option maxRecDepth 100000 in
set_option maxHeartbeats 8000000 in
theorem rblock_any (m : Nat) (hm : m ≤ 90) (h : Hd) (k : Fo) (s : Bs) (P : CL 76 ((m : Int) + 1) k s) (ls : s.length ≤ 1000000000000) : CX 55 (m : Int) h k ([123, 10] ++ s ++ T.tabs m ++ [125]) := by
  intro A cap w hk
  have HC := Lib.hid (P.at (cap := cap) hk)
  have HT := Lib.hid (tabs_ra m (by omega) w)
  obtain ⟨x, hx⟩ : ∃ x, tx s = x := ⟨_, rfl⟩
  have HX : Hid (s = x.data.toList) := Lib.hid (by rw [← hx])
  rw [hx] at HC
  obtain ⟨y, hy⟩ : ∃ y, tx (T.tabs m) = y := ⟨_, rfl⟩
  have HY : Hid (T.tabs m = y.data.toList) := Lib.hid (by rw [← hy])
  rw [hy] at HT
  obtain ⟨n, hn⟩ : ∃ n, k.len = n := ⟨_, rfl⟩
  rw [hn] at HC ⊢
  have y0 : x.size ≤ 1000000000000 := by have e := congrArg List.length HX.out; have e2 : x.data.toList.length = x.size := rfl; omega
  have y1 : y.size ≤ 100 := by have e := congrArg List.length HY.out; rw [T.tabs_len] at e; have e2 : y.data.toList.length = y.size := rfl; omega
  have z0 : ¬ 9223372036854775807 < 2 + x.size := by omega
  have z1 : ¬ 9223372036854775807 < 2 + x.size + y.size := by omega
  have z2 : ¬ 9223372036854775807 < 2 + x.size + y.size + 1 := by omega
  have hw : IntKind.i64.wrap ((m : Int) + 1) = (m : Int) + 1 := IntWalk.i64_in _ (by omega)
  have HB0 : Hid (Below w.heap.size w (w.alloc (xo h A n cap))) := Lib.hid (b1 w _)
  clear y0 y1 ls hk P hx hy hn hm
  go_enter Tryz.func55, Tryz.ntmps55
  go_wp2_with (first
    | (go_at_call 76; (with_reducible refine (HC.out _ HB0.out).mono ?_); rintro e V ⟨rfl, hb⟩; have HB0 := Lib.hid (HB0.out.trans (hb.mono HB0.out.size)); clear hb)
    | (go_at_call 77; (with_reducible refine (HT.out _ HB0.out).mono ?_); rintro e V ⟨rfl, hb⟩; have HB0 := Lib.hid (HB0.out.trans (hb.mono HB0.out.size)); clear hb))
  go_ret
  exact ⟨str_fin (by rw [HX.out, HY.out]; simp), HB0.out⟩
set_option maxRecDepth 100000 in
set_option maxHeartbeats 8000000 in
theorem rlines_any (m : Nat) (hm : m ≤ 100) (F : Fo) (τ : Hd → Fo → Bs) (hP : F.All fun h k => CX 104 (m : Int) h k (τ h k)) (hfl : F.len ≤ 1048576) (lt : (catF (fun h k => T.tabs m ++ τ h k ++ [10]) F).length ≤ 1000000000000) : CL 76 (m : Int) F (catF (fun h k => T.tabs m ++ τ h k ++ [10]) F) := by
  intro A cap w hk
  have HR := Lib.hid (Rest.start hk)
  have HP := Lib.hid hP
  obtain ⟨n, hn⟩ : ∃ n, F.len = n := ⟨_, rfl⟩
  have HN := Lib.hid hn
  rw [hn] at hfl ⊢
  obtain ⟨tot, ht⟩ : ∃ tot, catF (fun h k => T.tabs m ++ τ h k ++ [10]) F = tot := ⟨_, rfl⟩
  have HTO := Lib.hid ht
  rw [ht] at lt ⊢
  have HT := Lib.hid (tabs_ra m hm w)
  obtain ⟨tb, hy⟩ : ∃ y, tx (T.tabs m) = y := ⟨_, rfl⟩
  have HY : Hid (T.tabs m = tb.data.toList) := Lib.hid (by rw [← hy])
  rw [hy] at HT
  clear hk hP hn ht hy
  go_enter Tryz.func76, Tryz.ntmps76
  go_wp2
  go_loopw [5, 6] (fun sx ix wr => ∃ (i : Nat) (R : Fo) (x : ByteArray), sx = .string x ∧ ix = .int .i64 (i : Int) ∧ Rest (Lt w.heap.size) w A F i R ∧ (R.All fun h k => CX 104 (m : Int) h k (τ h k)) ∧ x.data.toList ++ catF (fun h k => T.tabs m ++ τ h k ++ [10]) R = tot ∧ Below w.heap.size w wr) (fun _ ix _ => n - (intOf ix).toNat)
  case atStart => exact ⟨0, F, ⟨#[]⟩, rfl, rfl, HR.out, HP.out, by rw [HTO.out]; rfl, Below.refl _ _⟩
  case round =>
    obtain ⟨i, R, x, rfl, rfl, hr, hp, hx, hb⟩ := hrel
    have HX := Lib.hid hx
    have HB := Lib.hid hb
    clear hx
    cases R with
    | nil =>
      have hi := hr.stop
      obtain rfl : i = n := by have := HN.out; omega
      have HE : Hid (x.data.toList = tot) := Lib.hid (by rw [← HX.out]; simp [catF])
      clear hr hp hb hi
      go_wp2
      go_ret
      exact ⟨str_fin HE.out, HB.out⟩
    | cons h' k' r =>
      obtain ⟨g, o, A', cap', rfl, h9, hkc, hk', hr', hi, hg⟩ := hr.next
      have HRR := Lib.hid hr'
      obtain ⟨p1, p2⟩ := hp
      have HP2 := Lib.hid p2
      have HC := Lib.hid (p1.at (cap := cap') hk')
      have h9w : At9 wr g (o + i * 9) h' A' k'.len cap' := h9.carry (hb.block g hg)
      obtain ⟨l, hl⟩ : ∃ l, k'.len = l := ⟨_, rfl⟩
      rw [hl] at HC h9w
      have HS := Lib.hid (LS.mk h9w hb)
      have hx2 : x.data.toList ++ (T.tabs m ++ τ h' k' ++ [10]) ++ catF (fun h k => T.tabs m ++ τ h k ++ [10]) r = tot := by rw [← HX.out]; simp [catF]
      obtain ⟨s, hs⟩ : ∃ s, τ h' k' = s := ⟨_, rfl⟩
      rw [hs] at HC hx2
      obtain ⟨y, hyy⟩ : ∃ y, tx s = y := ⟨_, rfl⟩
      have HS1 : Hid (s = y.data.toList) := Lib.hid (by rw [← hyy])
      rw [hyy] at HC
      have lx := congrArg List.length hx2
      simp only [List.length_append, List.length_cons, List.length_nil] at lx
      have e1 : x.data.toList.length = x.size := rfl
      have e2 : s.length = y.size := congrArg List.length HS1.out
      have e3 : (T.tabs m).length = tb.size := congrArg List.length HY.out
      have z0 : ¬ 9223372036854775807 < tb.size + y.size := by omega
      have z1 : ¬ 9223372036854775807 < tb.size + y.size + 1 := by omega
      have z2 : ¬ 9223372036854775807 < x.size + (tb.size + y.size + 1) := by omega
      have HX2 : Hid ((x ++ (tb ++ y ++ ⟨#[10]⟩)).data.toList ++ catF (fun h k => T.tabs m ++ τ h k ++ [10]) r = tot) := Lib.hid (by rw [← hx2, HS1.out, HY.out]; simp)
      have hj : (i : Int) < (n : Int) := by have := HN.out; omega
      have hj0 : (0 : Int) ≤ (i : Int) := by omega
      obtain ⟨q0, q1, q2, q3, q4, q5, q6, q7, q8⟩ := h9w
      clear hr hb hr' hk' hkc h9 p1 p2 hl hs hyy lx e1 e2 e3 hx2
      go_wp2_with fail
      go_region_held3 (fun w' => w'.cell? ⟨g, o + i * 9, none⟩ = some (.int .i64 h'.kind) ∧ w'.cell? ⟨g, o + i * 9 + 1, none⟩ = some (.string h'.text) ∧ w'.cell? ⟨g, o + i * 9 + 2, none⟩ = some (.int .i64 h'.num) ∧ w'.cell? ⟨g, o + i * 9 + 3, none⟩ = some (.int .i64 h'.pos) ∧ w'.cell? ⟨g, o + i * 9 + 4, none⟩ = some (.slice A' l cap') ∧ w'.cell? ⟨g, o + i * 9 + 5, none⟩ = some (.int .i64 h'.tk) ∧ w'.cell? ⟨g, o + i * 9 + 6, none⟩ = some (.string h'.tn) ∧ w'.cell? ⟨g, o + i * 9 + 7, none⟩ = some (.int .i64 h'.ref) ∧ w'.cell? ⟨g, o + i * 9 + 8, none⟩ = some (.int .i64 h'.up) ∧ Below w.heap.size w w')
        (first | exact HS.out.start | exact LS.keep (by assumption) hb)
        (first | (go_at_call 77; (with_reducible refine (HT.out _ ?_).mono ?_); (go_split_ands; assumption); rintro e w' ⟨rfl, hb⟩) | (go_at_call 104; (with_reducible refine (HC.out _ ?_).mono ?_); (go_split_ands; assumption); rintro e w' ⟨rfl, hb⟩))
      all_goals
        have HBE : Hid (Below w.heap.size w w') := Lib.hid (by go_split_ands; assumption)
        go_wp2
        go_roundw
        case rel => exact ⟨i + 1, r, _, rfl, by go_num, HRR.out, HP2.out, HX2.out, HBE.out⟩
        case measure => simp [intOf]; omega
end Go.Proofs.YticbcnhbpbaocaaGreatDoor

set_option linter.all false
namespace Go.Proofs.YticbcnhbpbaocaaGreatDoor
open Go.RowKit T T.Fo
set_option linter.all false
set_option maxRecDepth 100000 in
set_option maxHeartbeats 8000000 in
theorem rx_30 {d : Int} (t : ByteArray) (nu p tk : Int) (tn : ByteArray) (r u : Int) (h0 : Hd) (k0 R0 : Fo) (s0 : Bs) (τ : Hd → Fo → Bs) (P0 : CX 102 d h0 k0 s0) (hP : R0.All fun h k => CX 75 d h k (τ h k)) (hfl : R0.len + 1 ≤ 1048576) (lt : (s0 ++ [40] ++ joinF τ R0 ++ [41]).length ≤ 1000000000000) : CX 75 d ⟨30, t, nu, p, tk, tn, r, u⟩ (.cons h0 k0 R0) (s0 ++ [40] ++ joinF τ R0 ++ [41]) := by
  intro A cap w hk
  obtain ⟨F, hF⟩ : ∃ F, Fo.cons h0 k0 R0 = F := ⟨_, rfl⟩
  have HR : Hid (Rest (Lt w.heap.size) w A F 1 R0) := Lib.hid (hF ▸ (Rest.start hk).tail)
  obtain ⟨g, o, A0, c0, hA, h9, hkc, hk0, _, _, hg⟩ := (Rest.start hk).next
  have HA := Lib.hid hA
  have HC0 := Lib.hid (P0.at (cap := c0) hk0)
  have HP := Lib.hid hP
  obtain ⟨n, hn⟩ : ∃ n, F.len = n := ⟨_, rfl⟩
  have hn1 : n = R0.len + 1 := by rw [← hn, ← hF]; rfl
  have HN := Lib.hid hn
  rw [show (Fo.cons h0 k0 R0).len = n by rw [hF, hn]]
  show RT 75 #[.agg #[.int .i64 30, .string t, .int .i64 nu, .int .i64 p, .slice A n cap, .int .i64 tk, .string tn, .int .i64 r, .int .i64 u], .int .i64 d] w _
  obtain ⟨l0, hl0⟩ : ∃ l, k0.len = l := ⟨_, rfl⟩
  rw [hl0] at HC0 h9
  obtain ⟨x0, hx0⟩ : ∃ x, tx s0 = x := ⟨_, rfl⟩
  have HX0 : Hid (s0 = x0.data.toList) := Lib.hid (by rw [← hx0])
  rw [hx0] at HC0
  have lt2 := lt
  simp only [List.length_append, List.length_cons, List.length_nil] at lt2
  have e0 : s0.length = x0.size := congrArg List.length HX0.out
  have z0 : ¬ 9223372036854775807 < x0.size + 1 := by omega
  obtain ⟨tot, ht⟩ : ∃ tot, s0 ++ [40] ++ joinF τ R0 = tot := ⟨_, rfl⟩
  have HTO : Hid ((x0 ++ ⟨#[40]⟩).data.toList ++ joinF τ R0 = tot) := Lib.hid (by rw [← ht, HX0.out]; simp)
  have hlt : tot.length + 1 ≤ 1000000000000 := by rw [← ht]; simp only [List.length_append, List.length_cons, List.length_nil]; omega
  rw [ht]
  have HB0 : Hid (Below w.heap.size w (w.alloc (xo ⟨30, t, nu, p, tk, tn, r, u⟩ A n cap))) := Lib.hid (b1 w _)
  have HZ0 : Hid (w.heap.size < (w.alloc (xo ⟨30, t, nu, p, tk, tn, r, u⟩ A n cap)).heap.size) := Lib.hid (by simp)
  have H40 : Hid ((w.alloc (xo ⟨30, t, nu, p, tk, tn, r, u⟩ A n cap)).cell? ⟨w.heap.size, 4, none⟩ = some (.slice A n cap)) := Lib.hid (xbox (xnb w _ A n cap)).2.2.2.2.1
  rw [show o + 0 * 9 = o by omega] at h9
  obtain ⟨q0, q1, q2, q3, q4, q5, q6, q7, q8⟩ := h9
  have hgn : ¬ g = w.heap.size := by have : g < w.heap.size := hg; omega
  have hg1 : g < w.heap.size + 1 := by have : g < w.heap.size := hg; omega
  have hn0 : (0 : Int) < (n : Int) := by omega
  have hnb : n ≤ 1048576 := by omega
  clear hk P0 hP hk0 hkc hx0 ht lt lt2 e0 hF hl0 hn hn1 hfl
  subst hA
  go_enter Tryz.func75, Tryz.ntmps75
  go_wp2_with (go_at_call 102; go_loud ((with_reducible refine (HC0.out _ HB0.out).mono ?_); rintro e V ⟨rfl, hb⟩; have HB1 := Lib.hid (HB0.out.trans (hb.mono HB0.out.size)); have HZ1 := Lib.hid (Nat.lt_of_lt_of_le HZ0.out hb.size); have H41 := Lib.hid ((hb.cell (p := ⟨w.heap.size, 4, none⟩) HZ0.out).trans H40.out); clear hb q0 q1 q2 q3 q4 q5 q6 q7 q8))
  go_loopw [5, 6] (fun sx ix wr => ∃ (i : Nat) (R : Fo) (x : ByteArray), sx = .string x ∧ ix = .int .i64 (i : Int) ∧ 1 ≤ i ∧ Rest (Lt w.heap.size) w (some ⟨g, o, none⟩) F i R ∧ (R.All fun h k => CX 75 d h k (τ h k)) ∧ x.data.toList ++ (if i = 1 then joinF τ R else catF (fun h k => [44, 32] ++ τ h k) R) = tot ∧ Below w.heap.size w wr ∧ w.heap.size < wr.heap.size ∧ wr.cell? ⟨w.heap.size, 4, none⟩ = some (.slice (some ⟨g, o, none⟩) n cap)) (fun _ ix _ => n - (intOf ix).toNat)
  case atStart => exact ⟨1, R0, _, rfl, rfl, Nat.le_refl _, HR.out, HP.out, HTO.out, HB1.out, HZ1.out, H41.out⟩
  case round =>
    obtain ⟨i, R, x, rfl, rfl, h1i, hr, hp, hx, hb, hz, h4⟩ := hrel
    have HX := Lib.hid hx
    have HB := Lib.hid hb
    have HZ := Lib.hid hz
    have H4 := Lib.hid h4
    clear hx
    cases R with
    | nil =>
      have hi := hr.stop
      obtain rfl : i = n := by have := HN.out; omega
      have hE : x.data.toList = tot := by rw [← HX.out]; split <;> simp [joinF, catF]
      have HE := Lib.hid hE
      have e1 : x.size = tot.length := congrArg List.length hE
      have z1 : ¬ 9223372036854775807 < x.size + 1 := by omega
      clear hr hp hb hi hE e1
      go_wp2
      go_ret
      exact ⟨str_fin (by rw [← HE.out]; simp), HB.out⟩
    | cons h' k' r' =>
      obtain ⟨g', o', A', cap', hAA, h9, hkc, hk', hr', hi, hg'⟩ := hr.next
      cases hAA
      have HRR := Lib.hid hr'
      obtain ⟨p1, p2⟩ := hp
      have HP2 := Lib.hid p2
      have HC := Lib.hid (p1.at (cap := cap') hk')
      have h9w : At9 wr g (o + i * 9) h' A' k'.len cap' := h9.carry (hb.block g hg')
      obtain ⟨l, hl⟩ : ∃ l, k'.len = l := ⟨_, rfl⟩
      rw [hl] at HC h9w
      obtain ⟨s, hs⟩ : ∃ s, τ h' k' = s := ⟨_, rfl⟩
      obtain ⟨y, hyy⟩ : ∃ y, tx s = y := ⟨_, rfl⟩
      have HS1 : Hid (s = y.data.toList) := Lib.hid (by rw [← hyy])
      rw [hs, hyy] at HC
      have hj : (i : Int) < (n : Int) := by have := HN.out; omega
      have hj0 : (0 : Int) ≤ (i : Int) := by omega
      obtain ⟨q0, q1, q2, q3, q4, q5, q6, q7, q8⟩ := h9w
      have hgw : g < wr.heap.size := by have : g < w.heap.size := hg'; omega
      by_cases e1 : i = 1
      · subst e1
        have hx2 : x.data.toList ++ s ++ catF (fun h k => [44, 32] ++ τ h k) r' = tot := by rw [← HX.out]; simp [joinF, hs]
        have lx := congrArg List.length hx2
        simp only [List.length_append, List.length_cons, List.length_nil] at lx
        have e1 : x.data.toList.length = x.size := rfl
        have e2 : s.length = y.size := congrArg List.length HS1.out
        have z0 : ¬ 9223372036854775807 < x.size + y.size := by omega
        have HX2 : Hid ((x ++ y).data.toList ++ (if 1 + 1 = 1 then joinF τ r' else catF (fun h k => [44, 32] ++ τ h k) r') = tot) := Lib.hid (by rw [if_neg (by omega), ← hx2, HS1.out]; simp)
        clear hr hb hr' hk' hkc h9 p1 p2 hl hs hyy lx e1 e2 hx2
        go_wp2_with (go_at_call 75; (with_reducible refine (HC.out _ HB.out).mono ?_); rintro e V2 ⟨rfl, hb⟩; have HBE := Lib.hid (HB.out.trans (hb.mono HB.out.size)); have HZE := Lib.hid (Nat.lt_of_lt_of_le HZ.out hb.size); have H4E := Lib.hid ((hb.cell (p := ⟨w.heap.size, 4, none⟩) HZ.out).trans H4.out); clear hb)
        go_roundw
        case rel => exact ⟨1 + 1, r', _, rfl, by go_num, by omega, HRR.out, HP2.out, HX2.out, HBE.out, HZE.out, H4E.out⟩
        case measure => simp [intOf]; omega
      · have hx2 : x.data.toList ++ ([44, 32] ++ s) ++ catF (fun h k => [44, 32] ++ τ h k) r' = tot := by rw [← HX.out, if_neg e1]; simp [catF, hs]
        have lx := congrArg List.length hx2
        simp only [List.length_append, List.length_cons, List.length_nil] at lx
        have e3 : x.data.toList.length = x.size := rfl
        have e2 : s.length = y.size := congrArg List.length HS1.out
        have z0 : ¬ 9223372036854775807 < x.size + 2 := by omega
        have z1 : ¬ 9223372036854775807 < x.size + 2 + y.size := by omega
        have h1 : (1 : Int) < (i : Int) := by omega
        have HX2 : Hid ((x ++ ⟨#[44, 32]⟩ ++ y).data.toList ++ (if i + 1 = 1 then joinF τ r' else catF (fun h k => [44, 32] ++ τ h k) r') = tot) := Lib.hid (by rw [if_neg (by omega), ← hx2, HS1.out]; simp)
        clear hr hb hr' hk' hkc h9 p1 p2 hl hs hyy lx e3 e2 hx2
        go_wp2_with (go_at_call 75; (with_reducible refine (HC.out _ HB.out).mono ?_); rintro e V2 ⟨rfl, hb⟩; have HBE := Lib.hid (HB.out.trans (hb.mono HB.out.size)); have HZE := Lib.hid (Nat.lt_of_lt_of_le HZ.out hb.size); have H4E := Lib.hid ((hb.cell (p := ⟨w.heap.size, 4, none⟩) HZ.out).trans H4.out); clear hb)
        go_roundw
        case rel => exact ⟨i + 1, r', _, rfl, by go_num, by omega, HRR.out, HP2.out, HX2.out, HBE.out, HZE.out, H4E.out⟩
        case measure => simp [intOf]; omega
end Go.Proofs.YticbcnhbpbaocaaGreatDoor

set_option linter.all false
namespace Go.Proofs.YticbcnhbpbaocaaGreatDoor
open Go.RowKit T T.Fo
set_option linter.all false
/-- A case of a select statement: its text without tabs. -/
def CaseR (m : Nat) (h : Hd) (k : Fo) (s : Bs) : Prop := ∃ h0 k0 h1 k1 s0 ls, k = .cons h0 k0 (.cons h1 k1 .nil) ∧ CL 76 ((m : Int) + 1) k1 ls ∧
  (((h0.kind == 9) = true ∧ s = [100, 101, 102, 97, 117, 108, 116, 58, 10] ++ ls) ∨ ((h0.kind == 9) = false ∧ CX 104 (m : Int) h0 k0 s0 ∧ s = [99, 97, 115, 101, 32] ++ s0 ++ [58, 10] ++ ls))
theorem len_of {a : Bs} {x : ByteArray} (h : a = x.data.toList) : a.length = x.size := congrArg List.length h
set_option maxRecDepth 100000 in
set_option maxHeartbeats 8000000 in
theorem rselect_any (m : Nat) (hm : m ≤ 90) (h : Hd) (F : Fo) (τ : Hd → Fo → Bs) (hP : F.All fun h k => CaseR m h k (τ h k)) (hfl : F.len ≤ 1048576) (lt : ([115, 101, 108, 101, 99, 116, 32, 123, 10] ++ catF (fun h k => T.tabs m ++ τ h k) F ++ T.tabs m ++ [125]).length ≤ 1000000000000) : CX 119 (m : Int) h F ([115, 101, 108, 101, 99, 116, 32, 123, 10] ++ catF (fun h k => T.tabs m ++ τ h k) F ++ T.tabs m ++ [125]) := by
  intro A cap w hk
  have HR := Lib.hid (Rest.start hk)
  have HP := Lib.hid hP
  obtain ⟨n, hn⟩ : ∃ n, F.len = n := ⟨_, rfl⟩
  have HN := Lib.hid hn
  rw [hn] at hfl ⊢
  have lt2 := lt
  simp only [List.length_append, List.length_cons, List.length_nil, T.tabs_len] at lt2
  obtain ⟨tot, ht⟩ : ∃ tot, [115, 101, 108, 101, 99, 116, 32, 123, 10] ++ catF (fun h k => T.tabs m ++ τ h k) F = tot := ⟨_, rfl⟩
  have HTO := Lib.hid ht
  have hlt : tot.length + 200 ≤ 1000000001000 := by rw [← ht]; simp only [List.length_append, List.length_cons, List.length_nil]; omega
  rw [ht] at lt ⊢
  have HT := Lib.hid fun W => rtabs_any m (by omega) W
  have HTR := Lib.hid fun W => tabs_ra m (by omega) W
  obtain ⟨tb, hy⟩ : ∃ y, tx (T.tabs m) = y := ⟨_, rfl⟩
  have HY : Hid (T.tabs m = tb.data.toList) := Lib.hid (by rw [← hy])
  rw [hy] at HT HTR
  have htb : tb.size ≤ 100 := by have e := len_of HY.out; rw [T.tabs_len] at e; omega
  have HB0 : Hid (Below w.heap.size w (w.alloc (xo h A n cap))) := Lib.hid (b1 w _)
  have HZ0 : Hid (w.heap.size < (w.alloc (xo h A n cap)).heap.size) := Lib.hid (by simp)
  have H40 : Hid ((w.alloc (xo h A n cap)).cell? ⟨w.heap.size, 4, none⟩ = some (.slice A n cap)) := Lib.hid (xbox (xnb w _ A n cap)).2.2.2.2.1
  have hw : IntKind.i64.wrap ((m : Int) + 1) = (m : Int) + 1 := IntWalk.i64_in _ (by omega)
  clear hk hP hn ht hy lt lt2
  go_enter Tryz.func119, Tryz.ntmps119
  go_wp2
  go_loopw [5, 6] (fun sx ix wr => ∃ (i : Nat) (R : Fo) (x : ByteArray), sx = .string x ∧ ix = .int .i64 (i : Int) ∧ Rest (Lt w.heap.size) w A F i R ∧ (R.All fun h k => CaseR m h k (τ h k)) ∧ x.data.toList ++ catF (fun h k => T.tabs m ++ τ h k) R = tot ∧ Below w.heap.size w wr ∧ w.heap.size < wr.heap.size ∧ wr.cell? ⟨w.heap.size, 4, none⟩ = some (.slice A n cap)) (fun _ ix _ => n - (intOf ix).toNat)
  case atStart => exact ⟨0, F, _, rfl, rfl, HR.out, HP.out, by rw [← HTO.out], HB0.out, HZ0.out, H40.out⟩
  case round =>
    obtain ⟨i, R, x, rfl, rfl, hr, hp, hx, hb, hz, h4⟩ := hrel
    have HX := Lib.hid hx
    have HB := Lib.hid hb
    have HZ := Lib.hid hz
    have H4 := Lib.hid h4
    clear hx
    cases R with
    | nil =>
      have hi := hr.stop
      obtain rfl : i = n := by have := HN.out; omega
      have HE : Hid (x.data.toList = tot) := Lib.hid (by rw [← HX.out]; simp [catF])
      have e1 : x.size = tot.length := (len_of HE.out.symm).symm
      have z0 : ¬ 9223372036854775807 < x.size + tb.size := by omega
      have z1 : ¬ 9223372036854775807 < x.size + tb.size + 1 := by omega
      clear hr hp hb hi e1
      go_wp2_with (go_at_call 77; refine (HT.out _).mono ?_; rintro e w' ⟨rfl, rfl⟩)
      go_ret
      exact ⟨str_fin (by rw [← HE.out, HY.out]; simp), HB.out⟩
    | cons h' k' r =>
      obtain ⟨g, o, A', cap', rfl, h9, hkc, hk', hr', hi, hg⟩ := hr.next
      have HRR := Lib.hid hr'
      obtain ⟨p1, p2⟩ := hp
      have HP2 := Lib.hid p2
      obtain ⟨h0, k0, h1, k1, s0, ls, rfl, hL, hcase⟩ := p1
      have h9w : At9 wr g (o + i * 9) h' A' 2 cap' := h9.carry (hb.block g hg)
      obtain ⟨g2, o2, A0, c0, A1, c1, rfl, D0, hk0, D1, hk1, hg2⟩ := kid2 (kids_at' hk' hb)
      have HL := Lib.hid (hL.at (cap := c1) hk1)
      obtain ⟨n0, hn0⟩ : ∃ n, k0.len = n := ⟨_, rfl⟩
      obtain ⟨n1, hn1⟩ : ∃ n, k1.len = n := ⟨_, rfl⟩
      rw [hn0] at D0
      rw [hn1] at D1 HL
      obtain ⟨z, hzz⟩ : ∃ y, tx ls = y := ⟨_, rfl⟩
      have HLS : Hid (ls = z.data.toList) := Lib.hid (by rw [← hzz])
      rw [hzz] at HL
      have hx2 : x.data.toList ++ (T.tabs m ++ τ h' (.cons h0 k0 (.cons h1 k1 .nil))) ++ catF (fun h k => T.tabs m ++ τ h k) r = tot := by rw [← HX.out]; simp [catF]
      have HS := Lib.hid (RS2.mk (xnb wr h' (some ⟨g2, o2, none⟩) 2 cap') (x9 (xo h' (some ⟨g2, o2, none⟩) 2 cap') D0 hg2) (x9 _ D1 hg2) (b1 wr (xo h' (some ⟨g2, o2, none⟩) 2 cap')))
      have HBN : Hid (Below wr.heap.size wr (wr.alloc (xo h' (some ⟨g2, o2, none⟩) 2 cap'))) := Lib.hid (b1 wr _)
      have hgn : ¬ g2 = wr.heap.size := by omega
      have hg1 : g2 < wr.heap.size + 1 := by omega
      have hj : (i : Int) < (n : Int) := by have := HN.out; omega
      have hj0 : (0 : Int) ≤ (i : Int) := by omega
      obtain ⟨q0, q1, q2, q3, q4, q5, q6, q7, q8⟩ := h9w
      rcases hcase with ⟨h9k, hs⟩ | ⟨h9k, hC, hs⟩
      · rw [hs] at hx2
        have lx := congrArg List.length hx2
        simp only [List.length_append, List.length_cons, List.length_nil] at lx
        have e1 : x.data.toList.length = x.size := rfl
        have e2 : ls.length = z.size := len_of HLS.out
        have e3 : (T.tabs m).length = tb.size := len_of HY.out
        have z0 : ¬ 9223372036854775807 < tb.size + 9 := by omega
        have z1 : ¬ 9223372036854775807 < x.size + (tb.size + 9) := by omega
        have z2 : ¬ 9223372036854775807 < x.size + (tb.size + 9) + z.size := by omega
        have HX2 : Hid ((x ++ (tb ++ ⟨#[100, 101, 102, 97, 117, 108, 116, 58, 10]⟩) ++ z).data.toList ++ catF (fun h k => T.tabs m ++ τ h k) r = tot) := Lib.hid (by rw [← hx2, HLS.out, HY.out]; simp)
        obtain ⟨a0, a1, a2, a3, a4, a5, a6, a7, a8⟩ := D0
        obtain ⟨b0, b1, b2, b3, b4, b5, b6, b7, b8⟩ := D1
        clear hr hb hr' hk' hkc h9 p2 hL hk0 hk1 hn0 hn1 hzz lx e1 e2 e3 hx2 hs
        go_wp2_with (first
          | (go_at_call 77; refine (HT.out _).mono ?_; rintro e w' ⟨rfl, rfl⟩)
          | (go_at_call 76; (with_reducible refine (HL.out _ HBN.out).mono ?_); rintro e V2 ⟨rfl, hb⟩; have HBM := Lib.hid (HBN.out.trans (hb.mono HBN.out.size)); clear hb))
        have HBE := Lib.hid (HB.out.trans (HBM.out.mono HB.out.size))
        have HZE := Lib.hid (Nat.lt_of_lt_of_le HZ.out HBM.out.size)
        have H4E := Lib.hid ((HBM.out.cell (p := ⟨w.heap.size, 4, none⟩) HZ.out).trans H4.out)
        go_roundw
        case rel => exact ⟨i + 1, r, _, rfl, by go_num, HRR.out, HP2.out, HX2.out, HBE.out, HZE.out, H4E.out⟩
        case measure => simp [intOf]; omega
      · rw [hs] at hx2
        have HC := Lib.hid (hC.at (cap := c0) hk0)
        rw [hn0] at HC
        obtain ⟨y, hyy⟩ : ∃ y, tx s0 = y := ⟨_, rfl⟩
        have HS1 : Hid (s0 = y.data.toList) := Lib.hid (by rw [← hyy])
        rw [hyy] at HC
        have lx := congrArg List.length hx2
        simp only [List.length_append, List.length_cons, List.length_nil] at lx
        have e1 : x.data.toList.length = x.size := rfl
        have e2 : ls.length = z.size := len_of HLS.out
        have e3 : (T.tabs m).length = tb.size := len_of HY.out
        have e4 : s0.length = y.size := len_of HS1.out
        have z0 : ¬ 9223372036854775807 < tb.size + 5 := by omega
        have z1 : ¬ 9223372036854775807 < tb.size + 5 + y.size := by omega
        have z2 : ¬ 9223372036854775807 < tb.size + 5 + y.size + 2 := by omega
        have z3 : ¬ 9223372036854775807 < x.size + (tb.size + 5 + y.size + 2) := by omega
        have z4 : ¬ 9223372036854775807 < x.size + (tb.size + 5 + y.size + 2) + z.size := by omega
        have HX2 : Hid ((x ++ (tb ++ ⟨#[99, 97, 115, 101, 32]⟩ ++ y ++ ⟨#[58, 10]⟩) ++ z).data.toList ++ catF (fun h k => T.tabs m ++ τ h k) r = tot) := Lib.hid (by rw [← hx2, HLS.out, HY.out, HS1.out]; simp)
        have HTW := Lib.hid (HTR.out wr)
        obtain ⟨a0, a1, a2, a3, a4, a5, a6, a7, a8⟩ := D0
        obtain ⟨b0, b1, b2, b3, b4, b5, b6, b7, b8⟩ := D1
        clear hr hb hr' hk' hkc h9 p2 hL hk0 hk1 hn0 hn1 hzz lx e1 e2 e3 e4 hx2 hs hC hyy
        go_wp2_with fail
        go_region_held3 (fun w' => w'.cell? ⟨wr.heap.size, 0, none⟩ = some (.int .i64 h'.kind) ∧ w'.cell? ⟨wr.heap.size, 1, none⟩ = some (.string h'.text) ∧ w'.cell? ⟨wr.heap.size, 2, none⟩ = some (.int .i64 h'.num) ∧ w'.cell? ⟨wr.heap.size, 3, none⟩ = some (.int .i64 h'.pos) ∧ w'.cell? ⟨wr.heap.size, 4, none⟩ = some (.slice (some ⟨g2, o2, none⟩) 2 cap') ∧ w'.cell? ⟨wr.heap.size, 5, none⟩ = some (.int .i64 h'.tk) ∧ w'.cell? ⟨wr.heap.size, 6, none⟩ = some (.string h'.tn) ∧ w'.cell? ⟨wr.heap.size, 7, none⟩ = some (.int .i64 h'.ref) ∧ w'.cell? ⟨wr.heap.size, 8, none⟩ = some (.int .i64 h'.up) ∧ w'.cell? ⟨g2, o2, none⟩ = some (.int .i64 h0.kind) ∧ w'.cell? ⟨g2, o2 + 1, none⟩ = some (.string h0.text) ∧ w'.cell? ⟨g2, o2 + 2, none⟩ = some (.int .i64 h0.num) ∧ w'.cell? ⟨g2, o2 + 3, none⟩ = some (.int .i64 h0.pos) ∧ w'.cell? ⟨g2, o2 + 4, none⟩ = some (.slice A0 n0 c0) ∧ w'.cell? ⟨g2, o2 + 5, none⟩ = some (.int .i64 h0.tk) ∧ w'.cell? ⟨g2, o2 + 6, none⟩ = some (.string h0.tn) ∧ w'.cell? ⟨g2, o2 + 7, none⟩ = some (.int .i64 h0.ref) ∧ w'.cell? ⟨g2, o2 + 8, none⟩ = some (.int .i64 h0.up) ∧ w'.cell? ⟨g2, o2 + 9, none⟩ = some (.int .i64 h1.kind) ∧ w'.cell? ⟨g2, o2 + 9 + 1, none⟩ = some (.string h1.text) ∧ w'.cell? ⟨g2, o2 + 9 + 2, none⟩ = some (.int .i64 h1.num) ∧ w'.cell? ⟨g2, o2 + 9 + 3, none⟩ = some (.int .i64 h1.pos) ∧ w'.cell? ⟨g2, o2 + 9 + 4, none⟩ = some (.slice A1 n1 c1) ∧ w'.cell? ⟨g2, o2 + 9 + 5, none⟩ = some (.int .i64 h1.tk) ∧ w'.cell? ⟨g2, o2 + 9 + 6, none⟩ = some (.string h1.tn) ∧ w'.cell? ⟨g2, o2 + 9 + 7, none⟩ = some (.int .i64 h1.ref) ∧ w'.cell? ⟨g2, o2 + 9 + 8, none⟩ = some (.int .i64 h1.up) ∧ Below wr.heap.size wr w')
          (first | exact HS.out.start | exact RS2.keep (hq := h') (Aq := some ⟨g2, o2, none⟩) (nq := 2) (cq := cap') (by assumption) hb)
          (first | (go_at_call 77; (with_reducible refine (HTW.out _ ?_).mono ?_); (go_split_ands; assumption); rintro e w' ⟨rfl, hb⟩) | (go_at_call 104; (with_reducible refine (HC.out _ ?_).mono ?_); (go_split_ands; assumption); rintro e w' ⟨rfl, hb⟩))
        all_goals
          have HBE1 : Hid (Below wr.heap.size wr w') := Lib.hid (by go_split_ands; assumption)
          go_split_ands
          go_wp2_with (go_at_call 76; (with_reducible refine (HL.out _ HBE1.out).mono ?_); rintro e V2 ⟨rfl, hb⟩; have HBM := Lib.hid (HBE1.out.trans (hb.mono HBE1.out.size)); clear hb)
          have HBE := Lib.hid (HB.out.trans (HBM.out.mono HB.out.size))
          have HZE := Lib.hid (Nat.lt_of_lt_of_le HZ.out HBM.out.size)
          have H4E := Lib.hid ((HBM.out.cell (p := ⟨w.heap.size, 4, none⟩) HZ.out).trans H4.out)
          go_roundw
          case rel => exact ⟨i + 1, r, _, rfl, by go_num, HRR.out, HP2.out, HX2.out, HBE.out, HZE.out, H4E.out⟩
          case measure => simp [intOf]; omega
end Go.Proofs.YticbcnhbpbaocaaGreatDoor
