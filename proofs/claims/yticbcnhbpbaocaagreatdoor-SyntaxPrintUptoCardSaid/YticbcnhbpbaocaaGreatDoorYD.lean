/-
  The specification's printer: declarations.
  The specification's printer: functions.
  The specification's printer: functions.
  The specification's printer: Print.
  The specification's printer: the model's text of every permitted tree.
-/
import Derived.Test.YticbcnhbpbaocaaGreatDoorYC
import Derived.Test.YticbcnhbpbaocaaGreatDoorYB
import Derived.Test.YticbcnhbpbaocaaGreatDoorRL
import Derived.Test.YticbcnhbpbaocaaGreatDoorYA
import Derived.Test.YticbcnhbpbaocaaGreatDoorQG
import Derived.Test.YticbcnhbpbaocaaGreatDoorQI
set_option linter.all false
namespace Go.Proofs.YticbcnhbpbaocaaGreatDoor
open Go.RowKit T T.Fo
set_option linter.all false
def FS1 (b : Nat) (A : Option Addr) (n cap : Nat) (g o g2 o2 : Nat) (tt : ByteArray) (cap' : Nat) (h0 : Hd) (A0 : Option Addr) (n0 c0 : Nat) (w w' : World) : Prop := w'.cell? ⟨b, 4, none⟩ = some (.slice A n cap) ∧ w'.cell? ⟨g, o + 1, none⟩ = some (.string tt) ∧ w'.cell? ⟨g, o + 4, none⟩ = some (.slice (some ⟨g2, o2, none⟩) 1 cap') ∧ w'.cell? ⟨g2, o2, none⟩ = some (.int .i64 h0.kind) ∧ w'.cell? ⟨g2, o2 + 1, none⟩ = some (.string h0.text) ∧ w'.cell? ⟨g2, o2 + 2, none⟩ = some (.int .i64 h0.num) ∧ w'.cell? ⟨g2, o2 + 3, none⟩ = some (.int .i64 h0.pos) ∧ w'.cell? ⟨g2, o2 + 4, none⟩ = some (.slice A0 n0 c0) ∧ w'.cell? ⟨g2, o2 + 5, none⟩ = some (.int .i64 h0.tk) ∧ w'.cell? ⟨g2, o2 + 6, none⟩ = some (.string h0.tn) ∧ w'.cell? ⟨g2, o2 + 7, none⟩ = some (.int .i64 h0.ref) ∧ w'.cell? ⟨g2, o2 + 8, none⟩ = some (.int .i64 h0.up) ∧ Below w.heap.size w w'
theorem FS1.keep {b : Nat} {A : Option Addr} {n cap : Nat} {g o g2 o2 : Nat} {tt : ByteArray} {cap' : Nat} {h0 : Hd} {A0 : Option Addr} {n0 c0 : Nat} {w V w' : World} (h : FS1 b A n cap g o g2 o2 tt cap' h0 A0 n0 c0 w V) (hb : Below V.heap.size V w') : w'.cell? ⟨b, 4, none⟩ = some (.slice A n cap) ∧ w'.cell? ⟨g, o + 1, none⟩ = some (.string tt) ∧ w'.cell? ⟨g, o + 4, none⟩ = some (.slice (some ⟨g2, o2, none⟩) 1 cap') ∧ w'.cell? ⟨g2, o2, none⟩ = some (.int .i64 h0.kind) ∧ w'.cell? ⟨g2, o2 + 1, none⟩ = some (.string h0.text) ∧ w'.cell? ⟨g2, o2 + 2, none⟩ = some (.int .i64 h0.num) ∧ w'.cell? ⟨g2, o2 + 3, none⟩ = some (.int .i64 h0.pos) ∧ w'.cell? ⟨g2, o2 + 4, none⟩ = some (.slice A0 n0 c0) ∧ w'.cell? ⟨g2, o2 + 5, none⟩ = some (.int .i64 h0.tk) ∧ w'.cell? ⟨g2, o2 + 6, none⟩ = some (.string h0.tn) ∧ w'.cell? ⟨g2, o2 + 7, none⟩ = some (.int .i64 h0.ref) ∧ w'.cell? ⟨g2, o2 + 8, none⟩ = some (.int .i64 h0.up) ∧ Below w.heap.size w w' := by
  obtain ⟨x0, x1, x2, x3, x4, x5, x6, x7, x8, x9, x10, x11, b⟩ := h
  exact ⟨xcell x0 hb, xcell x1 hb, xcell x2 hb, xcell x3 hb, xcell x4 hb, xcell x5 hb, xcell x6 hb, xcell x7 hb, xcell x8 hb, xcell x9 hb, xcell x10 hb, xcell x11 hb, b.trans (hb.mono b.size)⟩
theorem FS1.start {b : Nat} {A : Option Addr} {n cap : Nat} {g o g2 o2 : Nat} {tt : ByteArray} {cap' : Nat} {h0 : Hd} {A0 : Option Addr} {n0 c0 : Nat} {w V : World} (h : FS1 b A n cap g o g2 o2 tt cap' h0 A0 n0 c0 w V) : V.drew.cell? ⟨b, 4, none⟩ = some (.slice A n cap) ∧ V.drew.cell? ⟨g, o + 1, none⟩ = some (.string tt) ∧ V.drew.cell? ⟨g, o + 4, none⟩ = some (.slice (some ⟨g2, o2, none⟩) 1 cap') ∧ V.drew.cell? ⟨g2, o2, none⟩ = some (.int .i64 h0.kind) ∧ V.drew.cell? ⟨g2, o2 + 1, none⟩ = some (.string h0.text) ∧ V.drew.cell? ⟨g2, o2 + 2, none⟩ = some (.int .i64 h0.num) ∧ V.drew.cell? ⟨g2, o2 + 3, none⟩ = some (.int .i64 h0.pos) ∧ V.drew.cell? ⟨g2, o2 + 4, none⟩ = some (.slice A0 n0 c0) ∧ V.drew.cell? ⟨g2, o2 + 5, none⟩ = some (.int .i64 h0.tk) ∧ V.drew.cell? ⟨g2, o2 + 6, none⟩ = some (.string h0.tn) ∧ V.drew.cell? ⟨g2, o2 + 7, none⟩ = some (.int .i64 h0.ref) ∧ V.drew.cell? ⟨g2, o2 + 8, none⟩ = some (.int .i64 h0.up) ∧ Below w.heap.size w V.drew := by
  obtain ⟨x0, x1, x2, x3, x4, x5, x6, x7, x8, x9, x10, x11, b⟩ := h
  exact ⟨x0, x1, x2, x3, x4, x5, x6, x7, x8, x9, x10, x11, Below.drew b⟩
theorem FS1.mk {b : Nat} {A : Option Addr} {n cap : Nat} {g o g2 o2 : Nat} {tt : ByteArray} {cap' : Nat} {h0 : Hd} {A0 : Option Addr} {n0 c0 : Nat} {w V : World} (m4 : V.cell? ⟨b, 4, none⟩ = some (.slice A n cap)) (y1 : V.cell? ⟨g, o + 1, none⟩ = some (.string tt)) (y4 : V.cell? ⟨g, o + 4, none⟩ = some (.slice (some ⟨g2, o2, none⟩) 1 cap')) (k0 : At9 V g2 o2 h0 A0 n0 c0) (bl : Below w.heap.size w V) : FS1 b A n cap g o g2 o2 tt cap' h0 A0 n0 c0 w V := by
  obtain ⟨x0, x1, x2, x3, x4, x5, x6, x7, x8⟩ := k0
  exact ⟨m4, y1, y4, x0, x1, x2, x3, x4, x5, x6, x7, x8, bl⟩
def FS0 (g o g2 o2 : Nat) (tt : ByteArray) (cap' : Nat) (h0 : Hd) (A0 : Option Addr) (n0 c0 : Nat) (w w' : World) : Prop := w'.cell? ⟨g, o + 1, none⟩ = some (.string tt) ∧ w'.cell? ⟨g, o + 4, none⟩ = some (.slice (some ⟨g2, o2, none⟩) 1 cap') ∧ w'.cell? ⟨g2, o2, none⟩ = some (.int .i64 h0.kind) ∧ w'.cell? ⟨g2, o2 + 1, none⟩ = some (.string h0.text) ∧ w'.cell? ⟨g2, o2 + 2, none⟩ = some (.int .i64 h0.num) ∧ w'.cell? ⟨g2, o2 + 3, none⟩ = some (.int .i64 h0.pos) ∧ w'.cell? ⟨g2, o2 + 4, none⟩ = some (.slice A0 n0 c0) ∧ w'.cell? ⟨g2, o2 + 5, none⟩ = some (.int .i64 h0.tk) ∧ w'.cell? ⟨g2, o2 + 6, none⟩ = some (.string h0.tn) ∧ w'.cell? ⟨g2, o2 + 7, none⟩ = some (.int .i64 h0.ref) ∧ w'.cell? ⟨g2, o2 + 8, none⟩ = some (.int .i64 h0.up) ∧ Below w.heap.size w w'
theorem FS0.keep {g o g2 o2 : Nat} {tt : ByteArray} {cap' : Nat} {h0 : Hd} {A0 : Option Addr} {n0 c0 : Nat} {w V w' : World} (h : FS0 g o g2 o2 tt cap' h0 A0 n0 c0 w V) (hb : Below V.heap.size V w') : w'.cell? ⟨g, o + 1, none⟩ = some (.string tt) ∧ w'.cell? ⟨g, o + 4, none⟩ = some (.slice (some ⟨g2, o2, none⟩) 1 cap') ∧ w'.cell? ⟨g2, o2, none⟩ = some (.int .i64 h0.kind) ∧ w'.cell? ⟨g2, o2 + 1, none⟩ = some (.string h0.text) ∧ w'.cell? ⟨g2, o2 + 2, none⟩ = some (.int .i64 h0.num) ∧ w'.cell? ⟨g2, o2 + 3, none⟩ = some (.int .i64 h0.pos) ∧ w'.cell? ⟨g2, o2 + 4, none⟩ = some (.slice A0 n0 c0) ∧ w'.cell? ⟨g2, o2 + 5, none⟩ = some (.int .i64 h0.tk) ∧ w'.cell? ⟨g2, o2 + 6, none⟩ = some (.string h0.tn) ∧ w'.cell? ⟨g2, o2 + 7, none⟩ = some (.int .i64 h0.ref) ∧ w'.cell? ⟨g2, o2 + 8, none⟩ = some (.int .i64 h0.up) ∧ Below w.heap.size w w' := by
  obtain ⟨x0, x1, x2, x3, x4, x5, x6, x7, x8, x9, x10, b⟩ := h
  exact ⟨xcell x0 hb, xcell x1 hb, xcell x2 hb, xcell x3 hb, xcell x4 hb, xcell x5 hb, xcell x6 hb, xcell x7 hb, xcell x8 hb, xcell x9 hb, xcell x10 hb, b.trans (hb.mono b.size)⟩
theorem FS0.start {g o g2 o2 : Nat} {tt : ByteArray} {cap' : Nat} {h0 : Hd} {A0 : Option Addr} {n0 c0 : Nat} {w V : World} (h : FS0 g o g2 o2 tt cap' h0 A0 n0 c0 w V) : V.drew.cell? ⟨g, o + 1, none⟩ = some (.string tt) ∧ V.drew.cell? ⟨g, o + 4, none⟩ = some (.slice (some ⟨g2, o2, none⟩) 1 cap') ∧ V.drew.cell? ⟨g2, o2, none⟩ = some (.int .i64 h0.kind) ∧ V.drew.cell? ⟨g2, o2 + 1, none⟩ = some (.string h0.text) ∧ V.drew.cell? ⟨g2, o2 + 2, none⟩ = some (.int .i64 h0.num) ∧ V.drew.cell? ⟨g2, o2 + 3, none⟩ = some (.int .i64 h0.pos) ∧ V.drew.cell? ⟨g2, o2 + 4, none⟩ = some (.slice A0 n0 c0) ∧ V.drew.cell? ⟨g2, o2 + 5, none⟩ = some (.int .i64 h0.tk) ∧ V.drew.cell? ⟨g2, o2 + 6, none⟩ = some (.string h0.tn) ∧ V.drew.cell? ⟨g2, o2 + 7, none⟩ = some (.int .i64 h0.ref) ∧ V.drew.cell? ⟨g2, o2 + 8, none⟩ = some (.int .i64 h0.up) ∧ Below w.heap.size w V.drew := by
  obtain ⟨x0, x1, x2, x3, x4, x5, x6, x7, x8, x9, x10, b⟩ := h
  exact ⟨x0, x1, x2, x3, x4, x5, x6, x7, x8, x9, x10, Below.drew b⟩
theorem FS0.mk {g o g2 o2 : Nat} {tt : ByteArray} {cap' : Nat} {h0 : Hd} {A0 : Option Addr} {n0 c0 : Nat} {w V : World} (y1 : V.cell? ⟨g, o + 1, none⟩ = some (.string tt)) (y4 : V.cell? ⟨g, o + 4, none⟩ = some (.slice (some ⟨g2, o2, none⟩) 1 cap')) (k0 : At9 V g2 o2 h0 A0 n0 c0) (bl : Below w.heap.size w V) : FS0 g o g2 o2 tt cap' h0 A0 n0 c0 w V := by
  obtain ⟨x0, x1, x2, x3, x4, x5, x6, x7, x8⟩ := k0
  exact ⟨y1, y4, x0, x1, x2, x3, x4, x5, x6, x7, x8, bl⟩
/-- The text of a declaration. -/
def DX (h : Hd) (k : Fo) (s : Bs) : Prop := ∀ (A : Option Addr) (cap : Nat) (w : World), Kids (Lt w.heap.size) w A k → RT 38 #[nv h A k.len cap] w (tx s)
theorem DX.at {h : Hd} {k : Fo} {s : Bs} (H : DX h k s) {A : Option Addr} {cap : Nat} {w : World} (hk : Kids (Lt w.heap.size) w A k) : RA 38 #[nv h A k.len cap] w (tx s) := fun V hV => H A cap V ((hk.below hV (Nat.le_refl _)).mono hV.size)
/-- A field or a parameter. -/
def FieldR (h : Hd) (k : Fo) (s : Bs) : Prop := ∃ h0 k0, k = .cons h0 k0 .nil ∧ s = h.text.data.toList ++ [32] ++ typeS h0 ∧ h0.text.size ≤ 20000
theorem rtype_ra {h : Hd} {A : Option Addr} {n c : Nat} {w : World} (hm : h.text.size ≤ 20000) : RA 54 #[nv h A n c] w (tx (typeS h)) := fun V _ => rtype_any h A n c V hm
set_option maxRecDepth 100000 in
set_option maxHeartbeats 8000000 in
theorem rd_6 (t : ByteArray) (nu p tk : Int) (tn : ByteArray) (r u : Int) (k : Fo) (s : Bs) (P : CX 53 0 ⟨6, t, nu, p, tk, tn, r, u⟩ k s) : DX ⟨6, t, nu, p, tk, tn, r, u⟩ k s := by
  intro A cap w hk
  have HC := Lib.hid (P.at (cap := cap) hk)
  obtain ⟨n, hn⟩ : ∃ n, k.len = n := ⟨_, rfl⟩
  rw [hn] at HC ⊢
  obtain ⟨x, hx⟩ : ∃ x, tx s = x := ⟨_, rfl⟩
  have HX : Hid (s = x.data.toList) := Lib.hid (by rw [← hx])
  rw [hx] at HC
  have HC2 : Hid (RA 53 #[.agg #[.int .i64 6, .string t, .int .i64 nu, .int .i64 p, .slice A n cap, .int .i64 tk, .string tn, .int .i64 r, .int .i64 u], .int .i64 0] w x) := Lib.hid HC.out
  show RT 38 #[.agg #[.int .i64 6, .string t, .int .i64 nu, .int .i64 p, .slice A n cap, .int .i64 tk, .string tn, .int .i64 r, .int .i64 u]] w _
  have HB0 : Hid (Below w.heap.size w (w.alloc (xo ⟨6, t, nu, p, tk, tn, r, u⟩ A n cap))) := Lib.hid (b1 w _)
  clear HC hk P hx hn
  go_enter Tryz.func38, Tryz.ntmps38
  go_wp2_with (go_at_call 53; (with_reducible refine (HC2.out _ HB0.out).mono ?_); rintro e V ⟨rfl, hb⟩; have HB0 := Lib.hid (HB0.out.trans (hb.mono HB0.out.size)); clear hb)
  go_ret
  exact ⟨str_fin HX.out.symm, HB0.out⟩
set_option maxRecDepth 100000 in
set_option maxHeartbeats 8000000 in
theorem rd_2 (t : ByteArray) (nu p tk : Int) (tn : ByteArray) (r u : Int) (F : Fo) (τ : Hd → Fo → Bs) (hP : F.All fun h k => FieldR h k (τ h k)) (hfl : F.len ≤ 1048576) (lt : ([116, 121, 112, 101, 32] ++ t.data.toList ++ [32, 115, 116, 114, 117, 99, 116, 32, 123, 10] ++ catF (fun h k => [9] ++ τ h k ++ [10]) F ++ [125]).length ≤ 1000000000000) : DX ⟨2, t, nu, p, tk, tn, r, u⟩ F ([116, 121, 112, 101, 32] ++ t.data.toList ++ [32, 115, 116, 114, 117, 99, 116, 32, 123, 10] ++ catF (fun h k => [9] ++ τ h k ++ [10]) F ++ [125]) := by
  intro A cap w hk
  have HR := Lib.hid (Rest.start hk)
  have HP := Lib.hid hP
  obtain ⟨n, hn⟩ : ∃ n, F.len = n := ⟨_, rfl⟩
  have HN := Lib.hid hn
  rw [hn] at hfl ⊢
  show RT 38 #[.agg #[.int .i64 2, .string t, .int .i64 nu, .int .i64 p, .slice A n cap, .int .i64 tk, .string tn, .int .i64 r, .int .i64 u]] w _
  have lt2 := lt
  simp only [List.length_append, List.length_cons, List.length_nil] at lt2
  have et : t.data.toList.length = t.size := rfl
  have y0 : ¬ 9223372036854775807 < 5 + t.size := by omega
  have y1 : ¬ 9223372036854775807 < 5 + t.size + 10 := by omega
  obtain ⟨tot, ht⟩ : ∃ tot, [116, 121, 112, 101, 32] ++ t.data.toList ++ [32, 115, 116, 114, 117, 99, 116, 32, 123, 10] ++ catF (fun h k => [9] ++ τ h k ++ [10]) F = tot := ⟨_, rfl⟩
  have HTO : Hid ((⟨#[116, 121, 112, 101, 32]⟩ ++ t ++ ⟨#[32, 115, 116, 114, 117, 99, 116, 32, 123, 10]⟩ : ByteArray).data.toList ++ catF (fun h k => [9] ++ τ h k ++ [10]) F = tot) := Lib.hid (by rw [← ht]; simp)
  have hlt : tot.length + 1 ≤ 1000000000000 := by rw [← ht]; simp only [List.length_append, List.length_cons, List.length_nil]; omega
  rw [ht]
  have HB0 : Hid (Below w.heap.size w (w.alloc (xo ⟨2, t, nu, p, tk, tn, r, u⟩ A n cap))) := Lib.hid (b1 w _)
  have HZ0 : Hid (w.heap.size < (w.alloc (xo ⟨2, t, nu, p, tk, tn, r, u⟩ A n cap)).heap.size) := Lib.hid (by simp)
  have H40 : Hid ((w.alloc (xo ⟨2, t, nu, p, tk, tn, r, u⟩ A n cap)).cell? ⟨w.heap.size, 4, none⟩ = some (.slice A n cap)) := Lib.hid (xbox (xnb w _ A n cap)).2.2.2.2.1
  clear hk hP hn ht lt lt2 et
  go_enter Tryz.func38, Tryz.ntmps38
  go_wp2
  go_loopw [3, 4] (fun sx ix wr => ∃ (i : Nat) (R : Fo) (x : ByteArray), sx = .string x ∧ ix = .int .i64 (i : Int) ∧ Rest (Lt w.heap.size) w A F i R ∧ (R.All fun h k => FieldR h k (τ h k)) ∧ x.data.toList ++ catF (fun h k => [9] ++ τ h k ++ [10]) R = tot ∧ Below w.heap.size w wr ∧ w.heap.size < wr.heap.size ∧ wr.cell? ⟨w.heap.size, 4, none⟩ = some (.slice A n cap)) (fun _ ix _ => n - (intOf ix).toNat)
  case atStart => exact ⟨0, F, _, rfl, rfl, HR.out, HP.out, HTO.out, HB0.out, HZ0.out, H40.out⟩
  case round =>
    obtain ⟨i, R, x, rfl, rfl, hr, hp, hx, hb, hz, h4⟩ := hrel
    have HX := Lib.hid hx
    have HB := Lib.hid hb
    have HZ := Lib.hid hz
    have H4 := Lib.hid h4
    clear hx
    cases R with
    | nil =>
      have hi := hr.stop
      obtain rfl : i = n := by have := HN.out; omega
      have HE : Hid (x.data.toList = tot) := Lib.hid (by rw [← HX.out]; simp [catF])
      have e1 : x.size = tot.length := (len_of HE.out.symm).symm
      have z0 : ¬ 9223372036854775807 < x.size + 1 := by omega
      clear hr hp hb hi e1
      go_wp2
      go_ret
      exact ⟨str_fin (by rw [← HE.out]; simp), HB.out⟩
    | cons h' k' r' =>
      obtain ⟨g, o, A', cap', rfl, h9, hkc, hk', hr', hi, hg⟩ := hr.next
      have HRR := Lib.hid hr'
      obtain ⟨p1, p2⟩ := hp
      have HP2 := Lib.hid p2
      obtain ⟨h0, k0, rfl, hs, hm0⟩ := p1
      have h9w : At9 wr g (o + i * 9) h' A' 1 cap' := h9.carry (hb.block g hg)
      obtain ⟨g2, o2, A0, c0, rfl, D0, hk0, hg2⟩ := kidv1 (kids_at' hk' hb)
      obtain ⟨n0, hn0⟩ : ∃ n, k0.len = n := ⟨_, rfl⟩
      rw [hn0] at D0
      have HC := Lib.hid (rtype_ra (A := A0) (n := n0) (c := c0) (w := w) hm0)
      obtain ⟨q0, q1, q2, q3, q4, q5, q6, q7, q8⟩ := h9w
      have HS := Lib.hid (FS1.mk h4 q1 q4 D0 hb)
      have hx2 : x.data.toList ++ ([9] ++ (h'.text.data.toList ++ [32] ++ typeS h0) ++ [10]) ++ catF (fun h k => [9] ++ τ h k ++ [10]) r' = tot := by rw [← HX.out, ← hs]; simp [catF]
      obtain ⟨y, hyy⟩ : ∃ y, tx (typeS h0) = y := ⟨_, rfl⟩
      have HS1 : Hid (typeS h0 = y.data.toList) := Lib.hid (by rw [← hyy])
      rw [hyy] at HC
      have lx := congrArg List.length hx2
      simp only [List.length_append, List.length_cons, List.length_nil] at lx
      have e1 : x.data.toList.length = x.size := rfl
      have e2 : (typeS h0).length = y.size := len_of HS1.out
      have e3 : h'.text.data.toList.length = h'.text.size := rfl
      have z0 : ¬ 9223372036854775807 < 1 + h'.text.size := by omega
      have z1 : ¬ 9223372036854775807 < 1 + h'.text.size + 1 := by omega
      have z2 : ¬ 9223372036854775807 < 1 + h'.text.size + 1 + y.size := by omega
      have z3 : ¬ 9223372036854775807 < 1 + h'.text.size + 1 + y.size + 1 := by omega
      have z4 : ¬ 9223372036854775807 < x.size + (1 + h'.text.size + 1 + y.size + 1) := by omega
      have HX2 : Hid ((x ++ (⟨#[9]⟩ ++ h'.text ++ ⟨#[32]⟩ ++ y ++ ⟨#[10]⟩)).data.toList ++ catF (fun h k => [9] ++ τ h k ++ [10]) r' = tot) := Lib.hid (by rw [← hx2, HS1.out]; simp)
      have hj : (i : Int) < (n : Int) := by have := HN.out; omega
      have hj0 : (0 : Int) ≤ (i : Int) := by omega
      obtain ⟨a0, a1, a2, a3, a4, a5, a6, a7, a8⟩ := D0
      clear hr hb hr' hk' hkc h9 p2 hk0 hn0 hyy lx e1 e2 e3 hx2 hs hm0
      go_wp2_with fail
      go_region_held3 (fun w' => w'.cell? ⟨w.heap.size, 4, none⟩ = some (.slice (some ⟨g, o, none⟩) n cap) ∧ w'.cell? ⟨g, o + i * 9 + 1, none⟩ = some (.string h'.text) ∧ w'.cell? ⟨g, o + i * 9 + 4, none⟩ = some (.slice (some ⟨g2, o2, none⟩) 1 cap') ∧ w'.cell? ⟨g2, o2, none⟩ = some (.int .i64 h0.kind) ∧ w'.cell? ⟨g2, o2 + 1, none⟩ = some (.string h0.text) ∧ w'.cell? ⟨g2, o2 + 2, none⟩ = some (.int .i64 h0.num) ∧ w'.cell? ⟨g2, o2 + 3, none⟩ = some (.int .i64 h0.pos) ∧ w'.cell? ⟨g2, o2 + 4, none⟩ = some (.slice A0 n0 c0) ∧ w'.cell? ⟨g2, o2 + 5, none⟩ = some (.int .i64 h0.tk) ∧ w'.cell? ⟨g2, o2 + 6, none⟩ = some (.string h0.tn) ∧ w'.cell? ⟨g2, o2 + 7, none⟩ = some (.int .i64 h0.ref) ∧ w'.cell? ⟨g2, o2 + 8, none⟩ = some (.int .i64 h0.up) ∧ Below w.heap.size w w')
        (first | exact HS.out.start | exact FS1.keep (by assumption) hb)
        (first | (go_at_call 54; (with_reducible refine (HC.out _ ?_).mono ?_); (go_split_ands; assumption); rintro e w' ⟨rfl, hb⟩))
      all_goals
        have HBE : Hid (Below w.heap.size w w' ∧ w'.cell? ⟨w.heap.size, 4, none⟩ = some (.slice (some ⟨g, o, none⟩) n cap)) := Lib.hid (by go_split_ands; exact ⟨by assumption, by assumption⟩)
        have HZE : Hid (w.heap.size < w'.heap.size) := Lib.hid (World.block_lt_of_cell? w' _ HBE.out.2)
        go_wp2
        go_roundw
        case rel => exact ⟨i + 1, r', _, rfl, by go_num, HRR.out, HP2.out, HX2.out, HBE.out.1, HZE.out, HBE.out.2⟩
        case measure => simp [intOf]; omega
end Go.Proofs.YticbcnhbpbaocaaGreatDoor

set_option linter.all false
namespace Go.Proofs.YticbcnhbpbaocaaGreatDoor
open Go.RowKit T T.Fo
set_option linter.all false
set_option maxRecDepth 100000 in
set_option maxHeartbeats 8000000 in
theorem rd_4n (t : ByteArray) (nu p tk : Int) (tn : ByteArray) (r u : Int) (h0 : Hd) (F : Fo) (h1 : Hd) (k1 : Fo) (h2 : Hd) (k2 : Fo) (τ : Hd → Fo → Bs) (s2 : Bs) (hP : F.All fun h k => FieldR h k (τ h k)) (P2 : CX 55 0 h2 k2 s2) (hm1 : h1.text.size ≤ 20000) (h9 : (h1.kind != 9) = false) (hfl : F.len ≤ 1048576) (lt : ([102, 117, 110, 99, 32] ++ t.data.toList ++ [40] ++ joinF τ F ++ [41, 32] ++ s2).length ≤ 1000000000000) : DX ⟨4, t, nu, p, tk, tn, r, u⟩ (.cons h0 F (.cons h1 k1 (.cons h2 k2 .nil))) ([102, 117, 110, 99, 32] ++ t.data.toList ++ [40] ++ joinF τ F ++ [41, 32] ++ s2) := by
  intro A cap w hk
  obtain ⟨g, o, A0, c0, A1, c1, A2, c2, rfl, D0, hk0, D1, hk1, D2, hk2, hg⟩ := kid3 hk
  show RT 38 #[.agg #[.int .i64 4, .string t, .int .i64 nu, .int .i64 p, .slice (some ⟨g, o, none⟩) 3 cap, .int .i64 tk, .string tn, .int .i64 r, .int .i64 u]] w _
  have HR := Lib.hid (Rest.start hk0)
  have HP := Lib.hid hP
  have HC2 := Lib.hid (P2.at (cap := c2) hk2)
  obtain ⟨n, hn⟩ : ∃ n, F.len = n := ⟨_, rfl⟩
  have HN := Lib.hid hn
  rw [hn] at hfl D0
  obtain ⟨n1, hn1⟩ : ∃ n, k1.len = n := ⟨_, rfl⟩
  obtain ⟨n2, hn2⟩ : ∃ n, k2.len = n := ⟨_, rfl⟩
  rw [hn1] at D1
  rw [hn2] at D2 HC2
  have HC1 := Lib.hid (rtype_ra (A := A1) (n := n1) (c := c1) (w := w) hm1)
  obtain ⟨v1, hv1⟩ : ∃ x, tx (typeS h1) = x := ⟨_, rfl⟩
  have HV1 : Hid (typeS h1 = v1.data.toList) := Lib.hid (by rw [← hv1])
  rw [hv1] at HC1
  obtain ⟨v2, hv2⟩ : ∃ x, tx s2 = x := ⟨_, rfl⟩
  have HV2 : Hid (s2 = v2.data.toList) := Lib.hid (by rw [← hv2])
  rw [hv2] at HC2
  have lt2 := lt
  simp only [List.length_append, List.length_cons, List.length_nil] at lt2
  have et : t.data.toList.length = t.size := rfl
  have e1 : (typeS h1).length = v1.size := len_of HV1.out
  have e2 : s2.length = v2.size := len_of HV2.out
  have hv1b : v1.size ≤ 20010 := by have := typeS_len h1 hm1; omega
  have y0 : ¬ 9223372036854775807 < 5 + t.size := by omega
  have y1 : ¬ 9223372036854775807 < 5 + t.size + 1 := by omega
  obtain ⟨tot, ht⟩ : ∃ tot, [102, 117, 110, 99, 32] ++ t.data.toList ++ [40] ++ joinF τ F = tot := ⟨_, rfl⟩
  have HTO : Hid ((⟨#[102, 117, 110, 99, 32]⟩ ++ t ++ ⟨#[40]⟩ : ByteArray).data.toList ++ joinF τ F = tot) := Lib.hid (by rw [← ht]; simp)
  have hlt : tot.length + 2 + v2.size ≤ 1000000000000 := by rw [← ht]; simp only [List.length_append, List.length_cons, List.length_nil]; omega
  rw [ht]
  have HB0 : Hid (Below w.heap.size w (w.alloc (xo ⟨4, t, nu, p, tk, tn, r, u⟩ (some ⟨g, o, none⟩) 3 cap))) := Lib.hid (b1 w _)
  have HZ0 : Hid (w.heap.size < (w.alloc (xo ⟨4, t, nu, p, tk, tn, r, u⟩ (some ⟨g, o, none⟩) 3 cap)).heap.size) := Lib.hid (by simp)
  have H40 : Hid ((w.alloc (xo ⟨4, t, nu, p, tk, tn, r, u⟩ (some ⟨g, o, none⟩) 3 cap)).cell? ⟨w.heap.size, 4, none⟩ = some (.slice (some ⟨g, o, none⟩) 3 cap)) := Lib.hid (xbox (xnb w _ _ 3 cap)).2.2.2.2.1
  have hgn : ¬ g = w.heap.size := by omega
  have hg1 : g < w.heap.size + 1 := by omega
  have HD1 := Lib.hid D1
  have HD2 := Lib.hid D2
  have HG := Lib.hid hg
  obtain ⟨d0, d1, d2, d3, d4, d5, d6, d7, d8⟩ := D0
  clear hk hP hn ht lt lt2 et hk0 hk1 hk2 hn1 hn2 hv1 hv2 e1 e2 P2 hm1 D1 D2
  go_enter Tryz.func38, Tryz.ntmps38
  go_wp2
  go_loopw [5, 7] (fun sx ix wr => ∃ (i : Nat) (R : Fo) (x : ByteArray), sx = .string x ∧ ix = .int .i64 (i : Int) ∧ Rest (Lt w.heap.size) w A0 F i R ∧ (R.All fun h k => FieldR h k (τ h k)) ∧ x.data.toList ++ (if i = 0 then joinF τ R else catF (fun h k => [44, 32] ++ τ h k) R) = tot ∧ Below w.heap.size w wr ∧ w.heap.size < wr.heap.size ∧ wr.cell? ⟨w.heap.size, 4, none⟩ = some (.slice (some ⟨g, o, none⟩) 3 cap)) (fun _ ix _ => n - (intOf ix).toNat)
  case atStart => exact ⟨0, F, _, rfl, rfl, HR.out, HP.out, HTO.out, HB0.out, HZ0.out, H40.out⟩
  case round =>
    obtain ⟨i, R, x, rfl, rfl, hr, hp, hx, hb, hz, h4⟩ := hrel
    have HX := Lib.hid hx
    have HB := Lib.hid hb
    have HZ := Lib.hid hz
    have H4 := Lib.hid h4
    clear hx
    cases R with
    | nil =>
      have hi := hr.stop
      obtain rfl : i = n := by have := HN.out; omega
      have hE : x.data.toList = tot := by rw [← HX.out]; split <;> simp [joinF, catF]
      have HE := Lib.hid hE
      have e1 : x.size = tot.length := (len_of HE.out.symm).symm
      have z0 : ¬ 9223372036854775807 < x.size + 2 := by omega
      have z1 : ¬ 9223372036854775807 < v1.size + 1 := by omega
      have z2 : ¬ 9223372036854775807 < x.size + 2 + (v1.size + 1) := by omega
      have z3 : ¬ 9223372036854775807 < x.size + 2 + v2.size := by omega
      have z4 : ¬ 9223372036854775807 < x.size + 2 + (v1.size + 1) + v2.size := by omega
      obtain ⟨a0, a1, a2, a3, a4, a5, a6, a7, a8⟩ := HD1.out.carry (hb.block g HG.out)
      obtain ⟨b0, b1, b2, b3, b4, b5, b6, b7, b8⟩ := HD2.out.carry (hb.block g HG.out)
      have hgw : g < wr.heap.size := by omega
      clear hr hp hb hi hE e1
      go_wp2_with (first
        | (go_at_call 54; (with_reducible refine (HC1.out _ HB.out).mono ?_); rintro e V2 ⟨rfl, hb⟩; have HBB := Lib.hid hb; have HB := Lib.hid (HB.out.trans (hb.mono HB.out.size)); obtain ⟨hc, hf⟩ := bcell hb; clear hb)
        | (go_at_call 55; (with_reducible refine (HC2.out _ HB.out).mono ?_); rintro e V3 ⟨rfl, hb⟩; have HB := Lib.hid (HB.out.trans (hb.mono HB.out.size)); clear hb))
      go_ret
      exact ⟨str_fin (by rw [← HE.out, HV2.out]; simp), HB.out⟩
    | cons h' k' r' =>
      obtain ⟨g1, o1, A', cap', rfl, h9c, hkc, hk', hr', hi, hgg⟩ := hr.next
      have HRR := Lib.hid hr'
      obtain ⟨p1, p2⟩ := hp
      have HP2 := Lib.hid p2
      obtain ⟨hh0, kk0, rfl, hs, hm0⟩ := p1
      have h9w : At9 wr g1 (o1 + i * 9) h' A' 1 cap' := h9c.carry (hb.block g1 hgg)
      obtain ⟨g2, o2, A3, c3, rfl, D0, hk0, hg2⟩ := kidv1 (kids_at' hk' hb)
      obtain ⟨n0, hn0⟩ : ∃ n, kk0.len = n := ⟨_, rfl⟩
      rw [hn0] at D0
      have HC := Lib.hid (rtype_ra (A := A3) (n := n0) (c := c3) (w := w) hm0)
      obtain ⟨q0, q1, q2, q3, q4, q5, q6, q7, q8⟩ := h9w
      have HS := Lib.hid (FS1.mk h4 q1 q4 D0 hb)
      obtain ⟨y, hyy⟩ : ∃ y, tx (typeS hh0) = y := ⟨_, rfl⟩
      have HS1 : Hid (typeS hh0 = y.data.toList) := Lib.hid (by rw [← hyy])
      rw [hyy] at HC
      have e1 : x.data.toList.length = x.size := rfl
      have e2 : (typeS hh0).length = y.size := len_of HS1.out
      have e3 : h'.text.data.toList.length = h'.text.size := rfl
      have hj : (i : Int) < (n : Int) := by have := HN.out; omega
      have hj0 : (0 : Int) ≤ (i : Int) := by omega
      have hnn : n ≤ 1048576 := by omega
      obtain ⟨a0, a1, a2, a3, a4, a5, a6, a7, a8⟩ := D0
      by_cases ei : i = 0
      · have hx2 : x.data.toList ++ (h'.text.data.toList ++ [32] ++ typeS hh0) ++ catF (fun h k => [44, 32] ++ τ h k) r' = tot := by rw [← HX.out, ← hs, if_pos ei]; simp [joinF]
        have lx := congrArg List.length hx2
        simp only [List.length_append, List.length_cons, List.length_nil] at lx
        have z1 : ¬ 9223372036854775807 < h'.text.size + 1 := by omega
        have z2 : ¬ 9223372036854775807 < h'.text.size + 1 + y.size := by omega
        have z4 : ¬ 9223372036854775807 < x.size + (h'.text.size + 1 + y.size) := by omega
        have HX2 : Hid ((x ++ (h'.text ++ ⟨#[32]⟩ ++ y)).data.toList ++ (if i + 1 = 0 then joinF τ r' else catF (fun h k => [44, 32] ++ τ h k) r') = tot) := Lib.hid (by rw [if_neg (by omega), ← hx2, HS1.out]; simp)
        have hi0 : ¬ (0 : Int) < (i : Int) := by omega
        clear hr hb hr' hk' hkc h9c p2 hk0 hn0 hyy lx e1 e2 e3 hx2 hs hm0 hfl ei
        go_wp2_with fail
        go_region_held3 (fun w' => w'.cell? ⟨w.heap.size, 4, none⟩ = some (.slice (some ⟨g, o, none⟩) 3 cap) ∧ w'.cell? ⟨g1, o1 + i * 9 + 1, none⟩ = some (.string h'.text) ∧ w'.cell? ⟨g1, o1 + i * 9 + 4, none⟩ = some (.slice (some ⟨g2, o2, none⟩) 1 cap') ∧ w'.cell? ⟨g2, o2, none⟩ = some (.int .i64 hh0.kind) ∧ w'.cell? ⟨g2, o2 + 1, none⟩ = some (.string hh0.text) ∧ w'.cell? ⟨g2, o2 + 2, none⟩ = some (.int .i64 hh0.num) ∧ w'.cell? ⟨g2, o2 + 3, none⟩ = some (.int .i64 hh0.pos) ∧ w'.cell? ⟨g2, o2 + 4, none⟩ = some (.slice A3 n0 c3) ∧ w'.cell? ⟨g2, o2 + 5, none⟩ = some (.int .i64 hh0.tk) ∧ w'.cell? ⟨g2, o2 + 6, none⟩ = some (.string hh0.tn) ∧ w'.cell? ⟨g2, o2 + 7, none⟩ = some (.int .i64 hh0.ref) ∧ w'.cell? ⟨g2, o2 + 8, none⟩ = some (.int .i64 hh0.up) ∧ Below w.heap.size w w')
          (first | exact HS.out.start | exact FS1.keep (by assumption) hb)
          (first | (go_at_call 54; (with_reducible refine (HC.out _ ?_).mono ?_); (go_split_ands; assumption); rintro e w' ⟨rfl, hb⟩))
        all_goals
          have HBE : Hid (Below w.heap.size w w' ∧ w'.cell? ⟨w.heap.size, 4, none⟩ = some (.slice (some ⟨g, o, none⟩) 3 cap)) := Lib.hid (by go_split_ands; exact ⟨by assumption, by assumption⟩)
          have HZE : Hid (w.heap.size < w'.heap.size) := Lib.hid (World.block_lt_of_cell? w' _ HBE.out.2)
          go_wp2
          go_roundw
          case rel => exact ⟨i + 1, r', _, rfl, by go_num, HRR.out, HP2.out, HX2.out, HBE.out.1, HZE.out, HBE.out.2⟩
          case measure => simp [intOf]; omega
      · have hx2 : x.data.toList ++ ([44, 32] ++ (h'.text.data.toList ++ [32] ++ typeS hh0)) ++ catF (fun h k => [44, 32] ++ τ h k) r' = tot := by rw [← HX.out, ← hs, if_neg ei]; simp [catF]
        have lx := congrArg List.length hx2
        simp only [List.length_append, List.length_cons, List.length_nil] at lx
        have z0 : ¬ 9223372036854775807 < x.size + 2 := by omega
        have z1 : ¬ 9223372036854775807 < h'.text.size + 1 := by omega
        have z2 : ¬ 9223372036854775807 < h'.text.size + 1 + y.size := by omega
        have z4 : ¬ 9223372036854775807 < x.size + 2 + (h'.text.size + 1 + y.size) := by omega
        have HX2 : Hid ((x ++ ⟨#[44, 32]⟩ ++ (h'.text ++ ⟨#[32]⟩ ++ y)).data.toList ++ (if i + 1 = 0 then joinF τ r' else catF (fun h k => [44, 32] ++ τ h k) r') = tot) := Lib.hid (by rw [if_neg (by omega), ← hx2, HS1.out]; simp)
        have hi0 : (0 : Int) < (i : Int) := by omega
        clear hr hb hr' hk' hkc h9c p2 hk0 hn0 hyy lx e1 e2 e3 hx2 hs hm0 hfl ei
        go_wp2_with fail
        go_region_held3 (fun w' => w'.cell? ⟨w.heap.size, 4, none⟩ = some (.slice (some ⟨g, o, none⟩) 3 cap) ∧ w'.cell? ⟨g1, o1 + i * 9 + 1, none⟩ = some (.string h'.text) ∧ w'.cell? ⟨g1, o1 + i * 9 + 4, none⟩ = some (.slice (some ⟨g2, o2, none⟩) 1 cap') ∧ w'.cell? ⟨g2, o2, none⟩ = some (.int .i64 hh0.kind) ∧ w'.cell? ⟨g2, o2 + 1, none⟩ = some (.string hh0.text) ∧ w'.cell? ⟨g2, o2 + 2, none⟩ = some (.int .i64 hh0.num) ∧ w'.cell? ⟨g2, o2 + 3, none⟩ = some (.int .i64 hh0.pos) ∧ w'.cell? ⟨g2, o2 + 4, none⟩ = some (.slice A3 n0 c3) ∧ w'.cell? ⟨g2, o2 + 5, none⟩ = some (.int .i64 hh0.tk) ∧ w'.cell? ⟨g2, o2 + 6, none⟩ = some (.string hh0.tn) ∧ w'.cell? ⟨g2, o2 + 7, none⟩ = some (.int .i64 hh0.ref) ∧ w'.cell? ⟨g2, o2 + 8, none⟩ = some (.int .i64 hh0.up) ∧ Below w.heap.size w w')
          (first | exact HS.out.start | exact FS1.keep (by assumption) hb)
          (first | (go_at_call 54; (with_reducible refine (HC.out _ ?_).mono ?_); (go_split_ands; assumption); rintro e w' ⟨rfl, hb⟩))
        all_goals
          have HBE : Hid (Below w.heap.size w w' ∧ w'.cell? ⟨w.heap.size, 4, none⟩ = some (.slice (some ⟨g, o, none⟩) 3 cap)) := Lib.hid (by go_split_ands; exact ⟨by assumption, by assumption⟩)
          have HZE : Hid (w.heap.size < w'.heap.size) := Lib.hid (World.block_lt_of_cell? w' _ HBE.out.2)
          go_wp2
          go_roundw
          case rel => exact ⟨i + 1, r', _, rfl, by go_num, HRR.out, HP2.out, HX2.out, HBE.out.1, HZE.out, HBE.out.2⟩
          case measure => simp [intOf]; omega
end Go.Proofs.YticbcnhbpbaocaaGreatDoor

set_option linter.all false
namespace Go.Proofs.YticbcnhbpbaocaaGreatDoor
open Go.RowKit T T.Fo
set_option linter.all false
set_option maxRecDepth 100000 in
set_option maxHeartbeats 8000000 in
theorem rd_4y (t : ByteArray) (nu p tk : Int) (tn : ByteArray) (r u : Int) (h0 : Hd) (F : Fo) (h1 : Hd) (k1 : Fo) (h2 : Hd) (k2 : Fo) (τ : Hd → Fo → Bs) (s2 : Bs) (hP : F.All fun h k => FieldR h k (τ h k)) (P2 : CX 55 0 h2 k2 s2) (hm1 : h1.text.size ≤ 20000) (h9 : (h1.kind != 9) = true) (hfl : F.len ≤ 1048576) (lt : ([102, 117, 110, 99, 32] ++ t.data.toList ++ [40] ++ joinF τ F ++ [41, 32] ++ (typeS h1 ++ [32]) ++ s2).length ≤ 1000000000000) : DX ⟨4, t, nu, p, tk, tn, r, u⟩ (.cons h0 F (.cons h1 k1 (.cons h2 k2 .nil))) ([102, 117, 110, 99, 32] ++ t.data.toList ++ [40] ++ joinF τ F ++ [41, 32] ++ (typeS h1 ++ [32]) ++ s2) := by
  intro A cap w hk
  obtain ⟨g, o, A0, c0, A1, c1, A2, c2, rfl, D0, hk0, D1, hk1, D2, hk2, hg⟩ := kid3 hk
  show RT 38 #[.agg #[.int .i64 4, .string t, .int .i64 nu, .int .i64 p, .slice (some ⟨g, o, none⟩) 3 cap, .int .i64 tk, .string tn, .int .i64 r, .int .i64 u]] w _
  have HR := Lib.hid (Rest.start hk0)
  have HP := Lib.hid hP
  have HC2 := Lib.hid (P2.at (cap := c2) hk2)
  obtain ⟨n, hn⟩ : ∃ n, F.len = n := ⟨_, rfl⟩
  have HN := Lib.hid hn
  rw [hn] at hfl D0
  obtain ⟨n1, hn1⟩ : ∃ n, k1.len = n := ⟨_, rfl⟩
  obtain ⟨n2, hn2⟩ : ∃ n, k2.len = n := ⟨_, rfl⟩
  rw [hn1] at D1
  rw [hn2] at D2 HC2
  have HC1 := Lib.hid (rtype_ra (A := A1) (n := n1) (c := c1) (w := w) hm1)
  obtain ⟨v1, hv1⟩ : ∃ x, tx (typeS h1) = x := ⟨_, rfl⟩
  have HV1 : Hid (typeS h1 = v1.data.toList) := Lib.hid (by rw [← hv1])
  rw [hv1] at HC1
  obtain ⟨v2, hv2⟩ : ∃ x, tx s2 = x := ⟨_, rfl⟩
  have HV2 : Hid (s2 = v2.data.toList) := Lib.hid (by rw [← hv2])
  rw [hv2] at HC2
  have lt2 := lt
  simp only [List.length_append, List.length_cons, List.length_nil] at lt2
  have et : t.data.toList.length = t.size := rfl
  have e1 : (typeS h1).length = v1.size := len_of HV1.out
  have e2 : s2.length = v2.size := len_of HV2.out
  have hv1b : v1.size ≤ 20010 := by have := typeS_len h1 hm1; omega
  have y0 : ¬ 9223372036854775807 < 5 + t.size := by omega
  have y1 : ¬ 9223372036854775807 < 5 + t.size + 1 := by omega
  obtain ⟨tot, ht⟩ : ∃ tot, [102, 117, 110, 99, 32] ++ t.data.toList ++ [40] ++ joinF τ F = tot := ⟨_, rfl⟩
  have HTO : Hid ((⟨#[102, 117, 110, 99, 32]⟩ ++ t ++ ⟨#[40]⟩ : ByteArray).data.toList ++ joinF τ F = tot) := Lib.hid (by rw [← ht]; simp)
  have hlt : tot.length + 2 + v2.size ≤ 1000000000000 := by rw [← ht]; simp only [List.length_append, List.length_cons, List.length_nil]; omega
  rw [ht]
  have HB0 : Hid (Below w.heap.size w (w.alloc (xo ⟨4, t, nu, p, tk, tn, r, u⟩ (some ⟨g, o, none⟩) 3 cap))) := Lib.hid (b1 w _)
  have HZ0 : Hid (w.heap.size < (w.alloc (xo ⟨4, t, nu, p, tk, tn, r, u⟩ (some ⟨g, o, none⟩) 3 cap)).heap.size) := Lib.hid (by simp)
  have H40 : Hid ((w.alloc (xo ⟨4, t, nu, p, tk, tn, r, u⟩ (some ⟨g, o, none⟩) 3 cap)).cell? ⟨w.heap.size, 4, none⟩ = some (.slice (some ⟨g, o, none⟩) 3 cap)) := Lib.hid (xbox (xnb w _ _ 3 cap)).2.2.2.2.1
  have hgn : ¬ g = w.heap.size := by omega
  have hg1 : g < w.heap.size + 1 := by omega
  have HD1 := Lib.hid D1
  have HD2 := Lib.hid D2
  have HG := Lib.hid hg
  obtain ⟨d0, d1, d2, d3, d4, d5, d6, d7, d8⟩ := D0
  clear hk hP hn ht lt lt2 et hk0 hk1 hk2 hn1 hn2 hv1 hv2 e1 e2 P2 hm1 D1 D2
  go_enter Tryz.func38, Tryz.ntmps38
  go_wp2
  go_loopw [5, 7] (fun sx ix wr => ∃ (i : Nat) (R : Fo) (x : ByteArray), sx = .string x ∧ ix = .int .i64 (i : Int) ∧ Rest (Lt w.heap.size) w A0 F i R ∧ (R.All fun h k => FieldR h k (τ h k)) ∧ x.data.toList ++ (if i = 0 then joinF τ R else catF (fun h k => [44, 32] ++ τ h k) R) = tot ∧ Below w.heap.size w wr ∧ w.heap.size < wr.heap.size ∧ wr.cell? ⟨w.heap.size, 4, none⟩ = some (.slice (some ⟨g, o, none⟩) 3 cap)) (fun _ ix _ => n - (intOf ix).toNat)
  case atStart => exact ⟨0, F, _, rfl, rfl, HR.out, HP.out, HTO.out, HB0.out, HZ0.out, H40.out⟩
  case round =>
    obtain ⟨i, R, x, rfl, rfl, hr, hp, hx, hb, hz, h4⟩ := hrel
    have HX := Lib.hid hx
    have HB := Lib.hid hb
    have HZ := Lib.hid hz
    have H4 := Lib.hid h4
    clear hx
    cases R with
    | nil =>
      have hi := hr.stop
      obtain rfl : i = n := by have := HN.out; omega
      have hE : x.data.toList = tot := by rw [← HX.out]; split <;> simp [joinF, catF]
      have HE := Lib.hid hE
      have e1 : x.size = tot.length := (len_of HE.out.symm).symm
      have z0 : ¬ 9223372036854775807 < x.size + 2 := by omega
      have z1 : ¬ 9223372036854775807 < v1.size + 1 := by omega
      have z2 : ¬ 9223372036854775807 < x.size + 2 + (v1.size + 1) := by omega
      have z3 : ¬ 9223372036854775807 < x.size + 2 + v2.size := by omega
      have z4 : ¬ 9223372036854775807 < x.size + 2 + (v1.size + 1) + v2.size := by omega
      obtain ⟨a0, a1, a2, a3, a4, a5, a6, a7, a8⟩ := HD1.out.carry (hb.block g HG.out)
      obtain ⟨b0, b1, b2, b3, b4, b5, b6, b7, b8⟩ := HD2.out.carry (hb.block g HG.out)
      have hgw : g < wr.heap.size := by omega
      clear hr hp hb hi hE e1
      go_wp2_with (first
        | (go_at_call 54; (with_reducible refine (HC1.out _ HB.out).mono ?_); rintro e V2 ⟨rfl, hb⟩; have HBB := Lib.hid hb; have HB := Lib.hid (HB.out.trans (hb.mono HB.out.size)); obtain ⟨hc, hf⟩ := bcell hb; clear hb)
        | (go_at_call 55; (with_reducible refine (HC2.out _ HB.out).mono ?_); rintro e V3 ⟨rfl, hb⟩; have HB := Lib.hid (HB.out.trans (hb.mono HB.out.size)); clear hb))
      go_ret
      exact ⟨str_fin (by rw [← HE.out, HV2.out, HV1.out]; simp), HB.out⟩
    | cons h' k' r' =>
      obtain ⟨g1, o1, A', cap', rfl, h9c, hkc, hk', hr', hi, hgg⟩ := hr.next
      have HRR := Lib.hid hr'
      obtain ⟨p1, p2⟩ := hp
      have HP2 := Lib.hid p2
      obtain ⟨hh0, kk0, rfl, hs, hm0⟩ := p1
      have h9w : At9 wr g1 (o1 + i * 9) h' A' 1 cap' := h9c.carry (hb.block g1 hgg)
      obtain ⟨g2, o2, A3, c3, rfl, D0, hk0, hg2⟩ := kidv1 (kids_at' hk' hb)
      obtain ⟨n0, hn0⟩ : ∃ n, kk0.len = n := ⟨_, rfl⟩
      rw [hn0] at D0
      have HC := Lib.hid (rtype_ra (A := A3) (n := n0) (c := c3) (w := w) hm0)
      obtain ⟨q0, q1, q2, q3, q4, q5, q6, q7, q8⟩ := h9w
      have HS := Lib.hid (FS1.mk h4 q1 q4 D0 hb)
      obtain ⟨y, hyy⟩ : ∃ y, tx (typeS hh0) = y := ⟨_, rfl⟩
      have HS1 : Hid (typeS hh0 = y.data.toList) := Lib.hid (by rw [← hyy])
      rw [hyy] at HC
      have e1 : x.data.toList.length = x.size := rfl
      have e2 : (typeS hh0).length = y.size := len_of HS1.out
      have e3 : h'.text.data.toList.length = h'.text.size := rfl
      have hj : (i : Int) < (n : Int) := by have := HN.out; omega
      have hj0 : (0 : Int) ≤ (i : Int) := by omega
      have hnn : n ≤ 1048576 := by omega
      obtain ⟨a0, a1, a2, a3, a4, a5, a6, a7, a8⟩ := D0
      by_cases ei : i = 0
      · have hx2 : x.data.toList ++ (h'.text.data.toList ++ [32] ++ typeS hh0) ++ catF (fun h k => [44, 32] ++ τ h k) r' = tot := by rw [← HX.out, ← hs, if_pos ei]; simp [joinF]
        have lx := congrArg List.length hx2
        simp only [List.length_append, List.length_cons, List.length_nil] at lx
        have z1 : ¬ 9223372036854775807 < h'.text.size + 1 := by omega
        have z2 : ¬ 9223372036854775807 < h'.text.size + 1 + y.size := by omega
        have z4 : ¬ 9223372036854775807 < x.size + (h'.text.size + 1 + y.size) := by omega
        have HX2 : Hid ((x ++ (h'.text ++ ⟨#[32]⟩ ++ y)).data.toList ++ (if i + 1 = 0 then joinF τ r' else catF (fun h k => [44, 32] ++ τ h k) r') = tot) := Lib.hid (by rw [if_neg (by omega), ← hx2, HS1.out]; simp)
        have hi0 : ¬ (0 : Int) < (i : Int) := by omega
        clear hr hb hr' hk' hkc h9c p2 hk0 hn0 hyy lx e1 e2 e3 hx2 hs hm0 hfl ei
        go_wp2_with fail
        go_region_held3 (fun w' => w'.cell? ⟨w.heap.size, 4, none⟩ = some (.slice (some ⟨g, o, none⟩) 3 cap) ∧ w'.cell? ⟨g1, o1 + i * 9 + 1, none⟩ = some (.string h'.text) ∧ w'.cell? ⟨g1, o1 + i * 9 + 4, none⟩ = some (.slice (some ⟨g2, o2, none⟩) 1 cap') ∧ w'.cell? ⟨g2, o2, none⟩ = some (.int .i64 hh0.kind) ∧ w'.cell? ⟨g2, o2 + 1, none⟩ = some (.string hh0.text) ∧ w'.cell? ⟨g2, o2 + 2, none⟩ = some (.int .i64 hh0.num) ∧ w'.cell? ⟨g2, o2 + 3, none⟩ = some (.int .i64 hh0.pos) ∧ w'.cell? ⟨g2, o2 + 4, none⟩ = some (.slice A3 n0 c3) ∧ w'.cell? ⟨g2, o2 + 5, none⟩ = some (.int .i64 hh0.tk) ∧ w'.cell? ⟨g2, o2 + 6, none⟩ = some (.string hh0.tn) ∧ w'.cell? ⟨g2, o2 + 7, none⟩ = some (.int .i64 hh0.ref) ∧ w'.cell? ⟨g2, o2 + 8, none⟩ = some (.int .i64 hh0.up) ∧ Below w.heap.size w w')
          (first | exact HS.out.start | exact FS1.keep (by assumption) hb)
          (first | (go_at_call 54; (with_reducible refine (HC.out _ ?_).mono ?_); (go_split_ands; assumption); rintro e w' ⟨rfl, hb⟩))
        all_goals
          have HBE : Hid (Below w.heap.size w w' ∧ w'.cell? ⟨w.heap.size, 4, none⟩ = some (.slice (some ⟨g, o, none⟩) 3 cap)) := Lib.hid (by go_split_ands; exact ⟨by assumption, by assumption⟩)
          have HZE : Hid (w.heap.size < w'.heap.size) := Lib.hid (World.block_lt_of_cell? w' _ HBE.out.2)
          go_wp2
          go_roundw
          case rel => exact ⟨i + 1, r', _, rfl, by go_num, HRR.out, HP2.out, HX2.out, HBE.out.1, HZE.out, HBE.out.2⟩
          case measure => simp [intOf]; omega
      · have hx2 : x.data.toList ++ ([44, 32] ++ (h'.text.data.toList ++ [32] ++ typeS hh0)) ++ catF (fun h k => [44, 32] ++ τ h k) r' = tot := by rw [← HX.out, ← hs, if_neg ei]; simp [catF]
        have lx := congrArg List.length hx2
        simp only [List.length_append, List.length_cons, List.length_nil] at lx
        have z0 : ¬ 9223372036854775807 < x.size + 2 := by omega
        have z1 : ¬ 9223372036854775807 < h'.text.size + 1 := by omega
        have z2 : ¬ 9223372036854775807 < h'.text.size + 1 + y.size := by omega
        have z4 : ¬ 9223372036854775807 < x.size + 2 + (h'.text.size + 1 + y.size) := by omega
        have HX2 : Hid ((x ++ ⟨#[44, 32]⟩ ++ (h'.text ++ ⟨#[32]⟩ ++ y)).data.toList ++ (if i + 1 = 0 then joinF τ r' else catF (fun h k => [44, 32] ++ τ h k) r') = tot) := Lib.hid (by rw [if_neg (by omega), ← hx2, HS1.out]; simp)
        have hi0 : (0 : Int) < (i : Int) := by omega
        clear hr hb hr' hk' hkc h9c p2 hk0 hn0 hyy lx e1 e2 e3 hx2 hs hm0 hfl ei
        go_wp2_with fail
        go_region_held3 (fun w' => w'.cell? ⟨w.heap.size, 4, none⟩ = some (.slice (some ⟨g, o, none⟩) 3 cap) ∧ w'.cell? ⟨g1, o1 + i * 9 + 1, none⟩ = some (.string h'.text) ∧ w'.cell? ⟨g1, o1 + i * 9 + 4, none⟩ = some (.slice (some ⟨g2, o2, none⟩) 1 cap') ∧ w'.cell? ⟨g2, o2, none⟩ = some (.int .i64 hh0.kind) ∧ w'.cell? ⟨g2, o2 + 1, none⟩ = some (.string hh0.text) ∧ w'.cell? ⟨g2, o2 + 2, none⟩ = some (.int .i64 hh0.num) ∧ w'.cell? ⟨g2, o2 + 3, none⟩ = some (.int .i64 hh0.pos) ∧ w'.cell? ⟨g2, o2 + 4, none⟩ = some (.slice A3 n0 c3) ∧ w'.cell? ⟨g2, o2 + 5, none⟩ = some (.int .i64 hh0.tk) ∧ w'.cell? ⟨g2, o2 + 6, none⟩ = some (.string hh0.tn) ∧ w'.cell? ⟨g2, o2 + 7, none⟩ = some (.int .i64 hh0.ref) ∧ w'.cell? ⟨g2, o2 + 8, none⟩ = some (.int .i64 hh0.up) ∧ Below w.heap.size w w')
          (first | exact HS.out.start | exact FS1.keep (by assumption) hb)
          (first | (go_at_call 54; (with_reducible refine (HC.out _ ?_).mono ?_); (go_split_ands; assumption); rintro e w' ⟨rfl, hb⟩))
        all_goals
          have HBE : Hid (Below w.heap.size w w' ∧ w'.cell? ⟨w.heap.size, 4, none⟩ = some (.slice (some ⟨g, o, none⟩) 3 cap)) := Lib.hid (by go_split_ands; exact ⟨by assumption, by assumption⟩)
          have HZE : Hid (w.heap.size < w'.heap.size) := Lib.hid (World.block_lt_of_cell? w' _ HBE.out.2)
          go_wp2
          go_roundw
          case rel => exact ⟨i + 1, r', _, rfl, by go_num, HRR.out, HP2.out, HX2.out, HBE.out.1, HZE.out, HBE.out.2⟩
          case measure => simp [intOf]; omega
end Go.Proofs.YticbcnhbpbaocaaGreatDoor

set_option linter.all false
namespace Go.Proofs.YticbcnhbpbaocaaGreatDoor
open Go.RowKit T T.Fo
set_option linter.all false
set_option maxRecDepth 100000 in
set_option maxHeartbeats 8000000 in
theorem rprint_no (h : Hd) (F : Fo) (A : Option Addr) (cap : Nat) (w : World) (hO : Ok h F) (hk : Kids (Lt w.heap.size) w A F) (hv : validT nmv h F = false) : RT 24 #[nv h A F.len cap] w (tx []) := by
  have HV : Hid (∀ V, Below w.heap.size w V → CB' 14 V (nv h A F.len cap) false) := Lib.hid fun V hV => hv ▸ rvalid_any h F A cap V hO (kids_at' hk hV)
  obtain ⟨n, hn⟩ : ∃ n, F.len = n := ⟨_, rfl⟩
  rw [hn] at HV ⊢
  have HB0 : Hid (Below w.heap.size w (w.alloc (xo h A n cap))) := Lib.hid (b1 w _)
  clear hk hv hO hn
  go_enter Tryz.func24, Tryz.ntmps24
  go_wp2_with (go_at_call 14; (with_reducible refine (HV.out _ HB0.out).mono ?_); rintro e V ⟨rfl, hb⟩; have HB0 := Lib.hid (HB0.out.trans (hb.mono HB0.out.size)); clear hb)
  go_ret
  exact ⟨str_fin rfl, HB0.out⟩
set_option maxRecDepth 100000 in
set_option maxHeartbeats 8000000 in
theorem rprint_yes (h : Hd) (F : Fo) (A : Option Addr) (cap : Nat) (w : World) (hO : Ok h F) (hk : Kids (Lt w.heap.size) w A F) (hv : validT nmv h F = true) (τ : Hd → Fo → Bs) (hP : F.All fun h k => DX h k (τ h k)) (lt : (catF (fun h k => τ h k ++ [10]) F).length ≤ 1000000000000) : RT 24 #[nv h A F.len cap] w (tx (catF (fun h k => τ h k ++ [10]) F)) := by
  have HV : Hid (∀ V, Below w.heap.size w V → CB' 14 V (nv h A F.len cap) true) := Lib.hid fun V hV => hv ▸ rvalid_any h F A cap V hO (kids_at' hk hV)
  have HR := Lib.hid (Rest.start hk)
  have HP := Lib.hid hP
  have hnn : F.len ≤ 1048576 := Nat.le_trans F.len_le_cnt hO.2.2
  obtain ⟨n, hn⟩ : ∃ n, F.len = n := ⟨_, rfl⟩
  have HN := Lib.hid hn
  rw [hn] at HV hnn ⊢
  obtain ⟨tot, ht⟩ : ∃ tot, catF (fun h k => τ h k ++ [10]) F = tot := ⟨_, rfl⟩
  have HTO := Lib.hid ht
  rw [ht] at lt ⊢
  have HB0 : Hid (Below w.heap.size w (w.alloc (xo h A n cap))) := Lib.hid (b1 w _)
  have HZ0 : Hid (w.heap.size < (w.alloc (xo h A n cap)).heap.size) := Lib.hid (by simp)
  have H40 : Hid ((w.alloc (xo h A n cap)).cell? ⟨w.heap.size, 4, none⟩ = some (.slice A n cap)) := Lib.hid (xbox (xnb w _ A n cap)).2.2.2.2.1
  clear hk hP hn ht hO hv
  go_enter Tryz.func24, Tryz.ntmps24
  go_wp2_with (go_at_call 14; (with_reducible refine (HV.out _ HB0.out).mono ?_); rintro e V ⟨rfl, hb⟩; have HB1 := Lib.hid (HB0.out.trans (hb.mono HB0.out.size)); have HZ1 := Lib.hid (Nat.lt_of_lt_of_le HZ0.out hb.size); have H41 := Lib.hid ((hb.cell (p := ⟨w.heap.size, 4, none⟩) HZ0.out).trans H40.out); clear hb)
  go_loopw [3, 4] (fun sx ix wr => ∃ (i : Nat) (R : Fo) (x : ByteArray), sx = .string x ∧ ix = .int .i64 (i : Int) ∧ Rest (Lt w.heap.size) w A F i R ∧ (R.All fun h k => DX h k (τ h k)) ∧ x.data.toList ++ catF (fun h k => τ h k ++ [10]) R = tot ∧ Below w.heap.size w wr ∧ w.heap.size < wr.heap.size ∧ wr.cell? ⟨w.heap.size, 4, none⟩ = some (.slice A n cap)) (fun _ ix _ => n - (intOf ix).toNat)
  case atStart => exact ⟨0, F, _, rfl, rfl, HR.out, HP.out, by rw [HTO.out]; rfl, HB1.out, HZ1.out, H41.out⟩
  case round =>
    obtain ⟨i, R, x, rfl, rfl, hr, hp, hx, hb, hz, h4⟩ := hrel
    have HX := Lib.hid hx
    have HB := Lib.hid hb
    have HZ := Lib.hid hz
    have H4 := Lib.hid h4
    clear hx
    cases R with
    | nil =>
      have hi := hr.stop
      obtain rfl : i = n := by have := HN.out; omega
      have HE : Hid (x.data.toList = tot) := Lib.hid (by rw [← HX.out]; simp [catF])
      clear hr hp hb hi
      go_wp2
      go_ret
      exact ⟨str_fin HE.out, HB.out⟩
    | cons h' k' r' =>
      obtain ⟨g, o, A', cap', rfl, h9, hkc, hk', hr', hi, hg⟩ := hr.next
      have HRR := Lib.hid hr'
      obtain ⟨p1, p2⟩ := hp
      have HP2 := Lib.hid p2
      have HC := Lib.hid (p1.at (cap := cap') hk')
      have h9w : At9 wr g (o + i * 9) h' A' k'.len cap' := h9.carry (hb.block g hg)
      obtain ⟨l, hl⟩ : ∃ l, k'.len = l := ⟨_, rfl⟩
      rw [hl] at HC h9w
      obtain ⟨s, hs⟩ : ∃ s, τ h' k' = s := ⟨_, rfl⟩
      have hx2 : x.data.toList ++ (s ++ [10]) ++ catF (fun h k => τ h k ++ [10]) r' = tot := by rw [← HX.out]; simp [catF, hs]
      obtain ⟨y, hyy⟩ : ∃ y, tx s = y := ⟨_, rfl⟩
      have HS1 : Hid (s = y.data.toList) := Lib.hid (by rw [← hyy])
      rw [hs, hyy] at HC
      have lx := congrArg List.length hx2
      simp only [List.length_append, List.length_cons, List.length_nil] at lx
      have e1 : x.data.toList.length = x.size := rfl
      have e2 : s.length = y.size := len_of HS1.out
      have z0 : ¬ 9223372036854775807 < y.size + 1 := by omega
      have z1 : ¬ 9223372036854775807 < x.size + (y.size + 1) := by omega
      have HX2 : Hid ((x ++ (y ++ ⟨#[10]⟩)).data.toList ++ catF (fun h k => τ h k ++ [10]) r' = tot) := Lib.hid (by rw [← hx2, HS1.out]; simp)
      have hj : (i : Int) < (n : Int) := by have := HN.out; omega
      have hj0 : (0 : Int) ≤ (i : Int) := by omega
      have hgw : g < wr.heap.size := by have : g < w.heap.size := hg; omega
      obtain ⟨q0, q1, q2, q3, q4, q5, q6, q7, q8⟩ := h9w
      clear hr hb hr' hk' hkc h9 p1 p2 hl hs hyy lx e1 e2 hx2
      go_wp2_with (go_at_call 38; (with_reducible refine (HC.out _ HB.out).mono ?_); rintro e V2 ⟨rfl, hb⟩; have HBE := Lib.hid (HB.out.trans (hb.mono HB.out.size)); have HZE := Lib.hid (Nat.lt_of_lt_of_le HZ.out hb.size); have H4E := Lib.hid ((hb.cell (p := ⟨w.heap.size, 4, none⟩) HZ.out).trans H4.out); clear hb)
      go_roundw
      case rel => exact ⟨i + 1, r', _, rfl, by go_num, HRR.out, HP2.out, HX2.out, HBE.out, HZE.out, H4E.out⟩
      case measure => simp [intOf]; omega
end Go.Proofs.YticbcnhbpbaocaaGreatDoor

set_option linter.all false
namespace Go.Proofs.YticbcnhbpbaocaaGreatDoor
open Go.RowKit T T.Fo
set_option linter.all false
theorem Gd.len {n : Nat} {h : Hd} {k : Fo} (g : Gd n h k) : mx (rcT n h k) ≤ 100000000000 := by
  have := rcT_len n h k (by have := g.d; omega) g.s g.sk
  have := g.c
  omega
theorem Gd.exl {n : Nat} {h : Hd} {k : Fo} (g : Gd n h k) : (rcT n h k).ex.length ≤ 1000000000000 := by have := g.len; have := ex_le (rcT n h k); omega
theorem Gd.stl {n : Nat} {h : Hd} {k : Fo} (g : Gd n h k) : (rcT n h k).st.length ≤ 1000000000000 := by have := g.len; have := st_le (rcT n h k); omega
theorem Gd.lsl {n : Nat} {h : Hd} {k : Fo} (g : Gd n h k) : (rcT n h k).ls.length ≤ 1000000000000 := by have := g.len; have := ls_le (rcT n h k); omega
theorem Gd.tl {n : Nat} {h : Hd} {k : Fo} (g : Gd n h k) : h.text.size ≤ 20000 := g.s.1
theorem catF_lines (n : Nat) : ∀ F : Fo, catF (fun h k => T.tabs n ++ (rcT n h k).st ++ [10]) F = linesS n (rcF F n)
  | .nil => rfl
  | .cons h k r => by rw [rcF_cons]; simp only [catF, catF_lines n r]; simp [linesS, lineS]
theorem catF_comma (n : Nat) : ∀ F : Fo, ∀ a : Bs, a ++ catF (fun h k => [44, 32] ++ (rcT n h k).ex) F = joinC (a :: (rcF F n).map (·.ex))
  | .nil, a => by simp [catF, rcF, joinC]
  | .cons h k r, a => by
    rw [rcF_cons]
    have := catF_comma n r (rcT n h k).ex
    simp only [catF, List.map_cons, joinC]
    rw [← this]; simp
theorem joinF_ex (n : Nat) : ∀ F : Fo, joinF (fun h k => (rcT n h k).ex) F = joinC ((rcF F n).map (·.ex))
  | .nil => rfl
  | .cons h k r => by rw [rcF_cons]; simp only [joinF, List.map_cons]; exact catF_comma n r _
theorem catF_commas (n : Nat) : ∀ F : Fo, ∀ a : Bs, a ++ catF (fun h k => [44, 32] ++ (rcT n h k).st) F = joinC (a :: (rcF F n).map (·.st))
  | .nil, a => by simp [catF, rcF, joinC]
  | .cons h k r, a => by
    rw [rcF_cons]
    have := catF_commas n r (rcT n h k).st
    simp only [catF, List.map_cons, joinC]
    rw [← this]; simp
theorem joinF_st (n : Nat) : ∀ F : Fo, joinF (fun h k => (rcT n h k).st) F = joinC ((rcF F n).map (·.st))
  | .nil => rfl
  | .cons h k r => by rw [rcF_cons]; simp only [joinF, List.map_cons]; exact catF_commas n r _
theorem catF_tabs (n : Nat) : ∀ F : Fo, catF (fun h k => T.tabs n ++ (rcT n h k).st) F = ((rcF F n).map fun r => T.tabs n ++ r.st).flatten
  | .nil => rfl
  | .cons h k r => by rw [rcF_cons]; simp only [catF, catF_tabs n r]; simp
/-- What the specification's printer does with a permitted tree. -/
structure RQ (n : Nat) (h : Hd) (k : Fo) : Prop where
  ex : exprK h.kind = true → CX 75 (n : Int) h k (rcT n h k).ex
  st : stmtK h.kind = true → CX 104 (n : Int) h k (rcT n h k).st
  bl : h.kind = 10 → CX 55 (n : Int) h k (rcT n h k).st
  fi : h.kind = 18 → CX 118 (n : Int) h k (rcT n h k).st
  ln : h.kind = 10 → CL 76 ((n : Int) + 1) k (rcT n h k).ls
  cs : h.kind = 23 → CaseR n h k (rcT n h k).st
def RP (h : Hd) (k : Fo) : Prop := ∀ n, Gd n h k → RQ n h k
section
variable {n : Nat} {h : Hd} {k : Fo}
theorem Gd.rq (g : Gd n h k) (H : k.All RP) : k.All fun h' k' => RQ n h' k' ∧ Gd n h' k' := all_imp (fun h k hh => ⟨hh.1 n hh.2, hh.2⟩) (all_and H g.kids)
theorem Gd.rq1 (g : Gd n h k) (H : k.All RP) : k.All fun h' k' => RQ (n + 1) h' k' ∧ Gd (n + 1) h' k' := all_imp (fun h k hh => ⟨hh.1 (n + 1) hh.2, hh.2⟩) (all_and H g.kids1)
end
theorem par_l {c : Bool} {s : Bs} (h : s.length ≤ 100000000000) : (par c s).length ≤ 1000000000000 := by have := par_le c s; omega
theorem Gd.exm {n : Nat} {h : Hd} {k : Fo} (g : Gd n h k) : (rcT n h k).ex.length ≤ 100000000000 := by have := g.len; have := ex_le (rcT n h k); omega
theorem RQ.base {n : Nat} {h : Hd} {k : Fo} (q : RQ n h k) (g : Gd n h k) (e : exprK h.kind = true) : CX 102 (n : Int) h k (baseS (rcT n h k)) ∧ (baseS (rcT n h k)).length ≤ 1000000000000 := ⟨rbase_any h k _ (q.ex e) g.exl, par_l g.exm⟩
theorem RQ.opd {n : Nat} {h : Hd} {k : Fo} (q : RQ n h k) (g : Gd n h k) (e : exprK h.kind = true) : CX 103 (n : Int) h k (opdS (rcT n h k)) ∧ (opdS (rcT n h k)).length ≤ 1000000000000 := ⟨roperand_any h k _ (q.ex e) g.exl, par_l g.exm⟩
theorem CX.text {f : FuncId} {d : Int} {h : Hd} {k : Fo} {s s' : Bs} (H : CX f d h k s) (e : s = s') : CX f d h k s' := e ▸ H
theorem CL.text {f : FuncId} {d : Int} {k : Fo} {s s' : Bs} (H : CL f d k s) (e : s = s') : CL f d k s' := e ▸ H
theorem px_24 {n : Nat} {k : Fo} (t : ByteArray) (nu p tk : Int) (tn : ByteArray) (r u : Int) (g : Gd n ⟨24, t, nu, p, tk, tn, r, u⟩ k) (H : k.All RP) : CX 75 (n : Int) ⟨24, t, nu, p, tk, tn, r, u⟩ k (rcT n ⟨24, t, nu, p, tk, tn, r, u⟩ k).ex := by
  have hc := g.parts.2.2.1
  simp [childrenFit, places] at hc
  obtain rfl := fits_nil hc
  have hn := g.parts.2.1
  simp [numFits] at hn
  have hs : nu < 9223372036854775808 := g.s.2
  obtain ⟨v, rfl⟩ : ∃ v : Nat, nu = (v : Int) := ⟨nu.toNat, by omega⟩
  exact (rx_24 t v p tk tn r u hs).text (by show digs v = digs ((v : Int)).toNat; rw [Int.toNat_natCast])
theorem px_25 {n : Nat} {k : Fo} (t : ByteArray) (nu p tk : Int) (tn : ByteArray) (r u : Int) (g : Gd n ⟨25, t, nu, p, tk, tn, r, u⟩ k) (H : k.All RP) : CX 75 (n : Int) ⟨25, t, nu, p, tk, tn, r, u⟩ k (rcT n ⟨25, t, nu, p, tk, tn, r, u⟩ k).ex := by
  have hc := g.parts.2.2.1
  simp [childrenFit, places] at hc
  obtain rfl := fits_nil hc
  exact rx_25 t nu p tk tn r u
theorem px_26 {n : Nat} {k : Fo} (t : ByteArray) (nu p tk : Int) (tn : ByteArray) (r u : Int) (g : Gd n ⟨26, t, nu, p, tk, tn, r, u⟩ k) (H : k.All RP) : CX 75 (n : Int) ⟨26, t, nu, p, tk, tn, r, u⟩ k (rcT n ⟨26, t, nu, p, tk, tn, r, u⟩ k).ex := by
  have hc := g.parts.2.2.1
  simp [childrenFit, places] at hc
  obtain rfl := fits_nil hc
  exact rx_26 t nu p tk tn r u g.tl
theorem px_27 {n : Nat} {k : Fo} (t : ByteArray) (nu p tk : Int) (tn : ByteArray) (r u : Int) (g : Gd n ⟨27, t, nu, p, tk, tn, r, u⟩ k) (H : k.All RP) : CX 75 (n : Int) ⟨27, t, nu, p, tk, tn, r, u⟩ k (rcT n ⟨27, t, nu, p, tk, tn, r, u⟩ k).ex := by
  have hc := g.parts.2.2.1
  simp [childrenFit, places] at hc
  obtain rfl := fits_nil hc
  exact rx_27 t nu p tk tn r u (g.tl)
theorem px_34 {n : Nat} {k : Fo} (t : ByteArray) (nu p tk : Int) (tn : ByteArray) (r u : Int) (g : Gd n ⟨34, t, nu, p, tk, tn, r, u⟩ k) (H : k.All RP) : CX 75 (n : Int) ⟨34, t, nu, p, tk, tn, r, u⟩ k (rcT n ⟨34, t, nu, p, tk, tn, r, u⟩ k).ex := by
  have hc := g.parts.2.2.1
  simp [childrenFit, places] at hc
  obtain rfl := fits_nil hc
  exact rx_34 t nu p tk tn r u (g.tl)
theorem px_28 {n : Nat} {k : Fo} (t : ByteArray) (nu p tk : Int) (tn : ByteArray) (r u : Int) (g : Gd n ⟨28, t, nu, p, tk, tn, r, u⟩ k) (H : k.All RP) : CX 75 (n : Int) ⟨28, t, nu, p, tk, tn, r, u⟩ k (rcT n ⟨28, t, nu, p, tk, tn, r, u⟩ k).ex := by
  have hc := g.parts.2.2.1
  simp [childrenFit, places] at hc
  obtain ⟨h0, k0, rfl, q0⟩ := fits_one hc
  have R := g.rq H
  obtain ⟨P, l⟩ := R.1.1.base R.1.2 q0
  exact rx_28 t nu p tk tn r u h0 k0 g.tl _ P l
theorem px_31 {n : Nat} {k : Fo} (t : ByteArray) (nu p tk : Int) (tn : ByteArray) (r u : Int) (g : Gd n ⟨31, t, nu, p, tk, tn, r, u⟩ k) (H : k.All RP) : CX 75 (n : Int) ⟨31, t, nu, p, tk, tn, r, u⟩ k (rcT n ⟨31, t, nu, p, tk, tn, r, u⟩ k).ex := by
  have hc := g.parts.2.2.1
  simp [childrenFit, places] at hc
  obtain ⟨h0, k0, rfl, q0⟩ := fits_one hc
  have R := g.rq H
  obtain ⟨P, l⟩ := R.1.1.opd R.1.2 q0
  exact rx_31 t nu p tk tn r u h0 k0 g.tl _ P l
theorem px_33 {n : Nat} {k : Fo} (t : ByteArray) (nu p tk : Int) (tn : ByteArray) (r u : Int) (g : Gd n ⟨33, t, nu, p, tk, tn, r, u⟩ k) (H : k.All RP) : CX 75 (n : Int) ⟨33, t, nu, p, tk, tn, r, u⟩ k (rcT n ⟨33, t, nu, p, tk, tn, r, u⟩ k).ex := by
  have hc := g.parts.2.2.1
  simp [childrenFit, places] at hc
  obtain ⟨h0, k0, rfl, q0⟩ := fits_one hc
  have R := g.rq H
  obtain ⟨P, l⟩ := R.1.1.opd R.1.2 q0
  exact rx_33 t nu p tk tn r u h0 k0 g.tl _ P l
theorem px_35 {n : Nat} {k : Fo} (t : ByteArray) (nu p tk : Int) (tn : ByteArray) (r u : Int) (g : Gd n ⟨35, t, nu, p, tk, tn, r, u⟩ k) (H : k.All RP) : CX 75 (n : Int) ⟨35, t, nu, p, tk, tn, r, u⟩ k (rcT n ⟨35, t, nu, p, tk, tn, r, u⟩ k).ex := by
  have hc := g.parts.2.2.1
  simp [childrenFit, places] at hc
  obtain ⟨h0, k0, rfl, q0⟩ := fits_one hc
  have R := g.rq H
  exact rx_35 t nu p tk tn r u h0 k0 g.tl _ (R.1.1.ex q0) R.1.2.exl
theorem px_36 {n : Nat} {k : Fo} (t : ByteArray) (nu p tk : Int) (tn : ByteArray) (r u : Int) (g : Gd n ⟨36, t, nu, p, tk, tn, r, u⟩ k) (H : k.All RP) : CX 75 (n : Int) ⟨36, t, nu, p, tk, tn, r, u⟩ k (rcT n ⟨36, t, nu, p, tk, tn, r, u⟩ k).ex := by
  have hc := g.parts.2.2.1
  simp [childrenFit, places] at hc
  obtain ⟨h0, k0, rfl, q0⟩ := fits_one hc
  have R := g.rq H
  exact rx_36 t nu p tk tn r u h0 k0 g.tl _ (R.1.1.ex q0) R.1.2.exl
theorem px_37 {n : Nat} {k : Fo} (t : ByteArray) (nu p tk : Int) (tn : ByteArray) (r u : Int) (g : Gd n ⟨37, t, nu, p, tk, tn, r, u⟩ k) (H : k.All RP) : CX 75 (n : Int) ⟨37, t, nu, p, tk, tn, r, u⟩ k (rcT n ⟨37, t, nu, p, tk, tn, r, u⟩ k).ex := by
  have hc := g.parts.2.2.1
  simp [childrenFit, places] at hc
  obtain ⟨h0, k0, rfl, q0⟩ := fits_one hc
  have R := g.rq H
  exact rx_37 t nu p tk tn r u h0 k0 g.tl _ (R.1.1.ex q0) R.1.2.exl
theorem px_29 {n : Nat} {k : Fo} (t : ByteArray) (nu p tk : Int) (tn : ByteArray) (r u : Int) (g : Gd n ⟨29, t, nu, p, tk, tn, r, u⟩ k) (H : k.All RP) : CX 75 (n : Int) ⟨29, t, nu, p, tk, tn, r, u⟩ k (rcT n ⟨29, t, nu, p, tk, tn, r, u⟩ k).ex := by
  have hc := g.parts.2.2.1
  simp [childrenFit, places] at hc
  obtain ⟨h0, k0, h1, k1, rfl, q0, q1⟩ := fits_two hc
  have R := g.rq H
  obtain ⟨P, l⟩ := R.1.1.base R.1.2 q0
  exact rx_29 t nu p tk tn r u h0 k0 h1 k1 g.tl _ P l _ (R.2.1.1.ex q1) R.2.1.2.exl
theorem px_32 {n : Nat} {k : Fo} (t : ByteArray) (nu p tk : Int) (tn : ByteArray) (r u : Int) (g : Gd n ⟨32, t, nu, p, tk, tn, r, u⟩ k) (H : k.All RP) : CX 75 (n : Int) ⟨32, t, nu, p, tk, tn, r, u⟩ k (rcT n ⟨32, t, nu, p, tk, tn, r, u⟩ k).ex := by
  have hc := g.parts.2.2.1
  simp [childrenFit, places] at hc
  obtain ⟨h0, k0, h1, k1, rfl, q0, q1⟩ := fits_two hc
  have R := g.rq H
  obtain ⟨P, l⟩ := R.1.1.opd R.1.2 q0
  obtain ⟨P1, l1⟩ := R.2.1.1.opd R.2.1.2 q1
  exact rx_32 t nu p tk tn r u h0 k0 h1 k1 g.tl _ P l _ P1 l1
theorem px_30 {n : Nat} {k : Fo} (t : ByteArray) (nu p tk : Int) (tn : ByteArray) (r u : Int) (g : Gd n ⟨30, t, nu, p, tk, tn, r, u⟩ k) (H : k.All RP) : CX 75 (n : Int) ⟨30, t, nu, p, tk, tn, r, u⟩ k (rcT n ⟨30, t, nu, p, tk, tn, r, u⟩ k).ex := by
  have hc := g.parts.2.2.1
  simp [childrenFit, places] at hc
  obtain ⟨hm, hA⟩ := fits_rep hc
  have R := g.rq H
  have hcn := g.c
  have hl := g.exl
  cases k with
  | nil => simp [Fo.len] at hm
  | cons h0 k0 F =>
    obtain ⟨P, l⟩ := R.1.1.base R.1.2 hA.1
    have hE : F.All fun h' k' => CX 75 (n : Int) h' k' (rcT n h' k').ex := all_imp (fun h k hh => hh.1.1.ex hh.2) (all_and R.2 hA.2)
    have e : baseS (rcT n h0 k0) ++ [40] ++ joinF (fun h k => (rcT n h k).ex) F ++ [41] = (rcT n ⟨30, t, nu, p, tk, tn, r, u⟩ (.cons h0 k0 F)).ex := by rw [joinF_ex]; rfl
    exact (rx_30 t nu p tk tn r u h0 k0 F _ (fun h k => (rcT n h k).ex) P hE (by have := F.len_le_cnt; simp only [Fo.cnt] at hcn; omega) (by rw [e]; exact hl)).text e
theorem px_38 {n : Nat} {k : Fo} (t : ByteArray) (nu p tk : Int) (tn : ByteArray) (r u : Int) (g : Gd n ⟨38, t, nu, p, tk, tn, r, u⟩ k) (H : k.All RP) : CX 75 (n : Int) ⟨38, t, nu, p, tk, tn, r, u⟩ k (rcT n ⟨38, t, nu, p, tk, tn, r, u⟩ k).ex := by
  have hc := g.parts.2.2.1
  simp [childrenFit, places] at hc
  obtain ⟨h0, k0, rfl, q0⟩ := fits_one hc
  have R := g.rq H
  have e := one_kind q0
  simp at e
  have := rx_38 t nu p tk tn r u h0 k0 g.tl _ (R.1.1.bl e) R.1.2.stl
  rw [st_10 n h0 k0 e] at this
  exact this
theorem expr_rp {n : Nat} {h : Hd} {k : Fo} (he : exprK h.kind = true) (g : Gd n h k) (H : k.All RP) : CX 75 (n : Int) h k (rcT n h k).ex := by
  obtain ⟨kd, t, nu, p, tk, tn, r, u⟩ := h
  simp only [exprK, Bool.or_eq_true, beq_iff_eq] at he
  rcases he with (((((((((((((rfl | rfl) | rfl) | rfl) | rfl) | rfl) | rfl) | rfl) | rfl) | rfl) | rfl) | rfl) | rfl) | rfl) | rfl
  · exact px_28 t nu p tk tn r u g H
  · exact px_29 t nu p tk tn r u g H
  · exact px_30 t nu p tk tn r u g H
  · exact px_31 t nu p tk tn r u g H
  · exact px_32 t nu p tk tn r u g H
  · exact px_33 t nu p tk tn r u g H
  · exact px_35 t nu p tk tn r u g H
  · exact px_36 t nu p tk tn r u g H
  · exact px_37 t nu p tk tn r u g H
  · exact px_27 t nu p tk tn r u g H
  · exact px_34 t nu p tk tn r u g H
  · exact px_24 t nu p tk tn r u g H
  · exact px_25 t nu p tk tn r u g H
  · exact px_26 t nu p tk tn r u g H
  · exact px_38 t nu p tk tn r u g H
theorem ps_13 {n : Nat} {k : Fo} (t : ByteArray) (nu p tk : Int) (tn : ByteArray) (r u : Int) (g : Gd n ⟨13, t, nu, p, tk, tn, r, u⟩ k) (H : k.All RP) : CX 104 (n : Int) ⟨13, t, nu, p, tk, tn, r, u⟩ k (rcT n ⟨13, t, nu, p, tk, tn, r, u⟩ k).st := by
  have hc := g.parts.2.2.1
  simp [childrenFit, places] at hc
  obtain ⟨h0, k0, rfl, q0⟩ := fits_one hc
  have R := g.rq H
  have e : exprK h0.kind = true := by
    have := one_kind q0
    simp at this
    rcases this with h | h <;> rw [h] <;> rfl
  exact rs_13 t nu p tk tn r u h0 k0 g.tl _ (R.1.1.ex e) R.1.2.exl
theorem ps_14 {n : Nat} {k : Fo} (t : ByteArray) (nu p tk : Int) (tn : ByteArray) (r u : Int) (g : Gd n ⟨14, t, nu, p, tk, tn, r, u⟩ k) (H : k.All RP) : CX 104 (n : Int) ⟨14, t, nu, p, tk, tn, r, u⟩ k (rcT n ⟨14, t, nu, p, tk, tn, r, u⟩ k).st := by
  have hc := g.parts.2.2.1
  simp [childrenFit, places] at hc
  obtain ⟨h0, k0, rfl, q0⟩ := fits_one hc
  have R := g.rq H
  have e : exprK h0.kind = true := by
    have := one_kind q0
    simp at this
    rw [this]; rfl
  exact rs_14 t nu p tk tn r u h0 k0 g.tl _ (R.1.1.ex e) R.1.2.exl
theorem ps_15 {n : Nat} {k : Fo} (t : ByteArray) (nu p tk : Int) (tn : ByteArray) (r u : Int) (g : Gd n ⟨15, t, nu, p, tk, tn, r, u⟩ k) (H : k.All RP) : CX 104 (n : Int) ⟨15, t, nu, p, tk, tn, r, u⟩ k (rcT n ⟨15, t, nu, p, tk, tn, r, u⟩ k).st := by
  have hc := g.parts.2.2.1
  simp [childrenFit, places] at hc
  obtain ⟨h0, k0, rfl, q0⟩ := fits_one hc
  have R := g.rq H
  have e : exprK h0.kind = true := by
    have := one_kind q0
    simp at this
    rw [this]; rfl
  exact rs_15 t nu p tk tn r u h0 k0 g.tl _ (R.1.1.ex e) R.1.2.exl
theorem ps_11 {n : Nat} {k : Fo} (t : ByteArray) (nu p tk : Int) (tn : ByteArray) (r u : Int) (g : Gd n ⟨11, t, nu, p, tk, tn, r, u⟩ k) (H : k.All RP) : CX 104 (n : Int) ⟨11, t, nu, p, tk, tn, r, u⟩ k (rcT n ⟨11, t, nu, p, tk, tn, r, u⟩ k).st := by
  have hc := g.parts.2.2.1
  simp [childrenFit, places] at hc
  obtain ⟨h0, k0, rfl, q0⟩ := fits_one hc
  have R := g.rq H
  exact rs_11 t nu p tk tn r u h0 k0 g.tl _ (R.1.1.ex q0) R.1.2.exl
theorem ps_17 {n : Nat} {k : Fo} (t : ByteArray) (nu p tk : Int) (tn : ByteArray) (r u : Int) (g : Gd n ⟨17, t, nu, p, tk, tn, r, u⟩ k) (H : k.All RP) : CX 104 (n : Int) ⟨17, t, nu, p, tk, tn, r, u⟩ k (rcT n ⟨17, t, nu, p, tk, tn, r, u⟩ k).st := by
  have hc := g.parts.2.2.1
  simp [childrenFit, places] at hc
  obtain ⟨h0, k0, rfl, q0⟩ := fits_one hc
  have R := g.rq H
  exact rs_17 t nu p tk tn r u h0 k0 g.tl _ (R.1.1.ex q0) R.1.2.exl
theorem ps_21 {n : Nat} {k : Fo} (t : ByteArray) (nu p tk : Int) (tn : ByteArray) (r u : Int) (g : Gd n ⟨21, t, nu, p, tk, tn, r, u⟩ k) (H : k.All RP) : CX 104 (n : Int) ⟨21, t, nu, p, tk, tn, r, u⟩ k (rcT n ⟨21, t, nu, p, tk, tn, r, u⟩ k).st := by
  have hc := g.parts.2.2.1
  simp [childrenFit, places] at hc
  obtain ⟨h0, k0, rfl, q0⟩ := fits_one hc
  have R := g.rq H
  exact rs_21 t nu p tk tn r u h0 k0 g.tl _ (R.1.1.ex q0) R.1.2.exl
theorem ps_12 {n : Nat} {k : Fo} (t : ByteArray) (nu p tk : Int) (tn : ByteArray) (r u : Int) (g : Gd n ⟨12, t, nu, p, tk, tn, r, u⟩ k) (H : k.All RP) : CX 104 (n : Int) ⟨12, t, nu, p, tk, tn, r, u⟩ k (rcT n ⟨12, t, nu, p, tk, tn, r, u⟩ k).st := by
  have hc := g.parts.2.2.1
  simp [childrenFit, places] at hc
  obtain ⟨h0, k0, h1, k1, rfl, q0, q1⟩ := fits_two hc
  have R := g.rq H
  exact rs_12 t nu p tk tn r u h0 k0 h1 k1 g.tl _ (R.1.1.ex q0) R.1.2.exl _ (R.2.1.1.ex q1) R.2.1.2.exl
theorem ps_16 {n : Nat} {k : Fo} (t : ByteArray) (nu p tk : Int) (tn : ByteArray) (r u : Int) (g : Gd n ⟨16, t, nu, p, tk, tn, r, u⟩ k) (H : k.All RP) : CX 104 (n : Int) ⟨16, t, nu, p, tk, tn, r, u⟩ k (rcT n ⟨16, t, nu, p, tk, tn, r, u⟩ k).st := by
  have hc := g.parts.2.2.1
  simp [childrenFit, places] at hc
  obtain ⟨h0, k0, h1, k1, rfl, q0, q1⟩ := fits_two hc
  have R := g.rq H
  exact rs_16 t nu p tk tn r u h0 k0 h1 k1 g.tl _ (R.1.1.ex q0) R.1.2.exl _ (R.2.1.1.ex q1) R.2.1.2.exl
theorem lines_rp {n : Nat} {h : Hd} {k : Fo} (e : h.kind = 10) (g : Gd n h k) (H : k.All RP) : CL 76 ((n : Int) + 1) k (rcT n h k).ls := by
  have hc := g.parts.2.2.1
  have hl := g.lsl
  have hcn := g.c
  have hd := g.d
  have R := g.rq1 H
  have hS : k.All fun h' k' => CX 104 ((n + 1 : Nat) : Int) h' k' (rcT (n + 1) h' k').st := by
    obtain ⟨kd, t, nu, p, tk, tn, r, u⟩ := h
    obtain rfl : kd = 10 := e
    simp [childrenFit, places] at hc
    exact all_imp (fun h k hh => hh.1.1.st hh.2) (all_and R (fits_rep hc).2)
  rw [rcT_ls] at hl ⊢
  have := rlines_any (n + 1) (by omega) k (fun h k => (rcT (n + 1) h k).st) hS (by have := k.len_le_cnt; omega) (by rw [catF_lines]; exact hl)
  rw [catF_lines] at this
  exact this
theorem block_rp {n : Nat} {h : Hd} {k : Fo} (e : h.kind = 10) (g : Gd n h k) (H : k.All RP) : CX 55 (n : Int) h k (rcT n h k).st := by
  have hd := g.d
  have := rblock_any n (by omega) h k _ (lines_rp e g H) g.lsl
  rw [st_10 n h k e]
  exact this
theorem ps_10 {n : Nat} {k : Fo} (t : ByteArray) (nu p tk : Int) (tn : ByteArray) (r u : Int) (g : Gd n ⟨10, t, nu, p, tk, tn, r, u⟩ k) (H : k.All RP) : CX 104 (n : Int) ⟨10, t, nu, p, tk, tn, r, u⟩ k (rcT n ⟨10, t, nu, p, tk, tn, r, u⟩ k).st := by
  exact rs_10 t nu p tk tn r u k _ (block_rp rfl g H)
theorem var_rp {n : Nat} {k : Fo} (t : ByteArray) (nu p tk : Int) (tn : ByteArray) (r u : Int) (g : Gd n ⟨6, t, nu, p, tk, tn, r, u⟩ k) (H : k.All RP) : CX 53 (n : Int) ⟨6, t, nu, p, tk, tn, r, u⟩ k (rcT n ⟨6, t, nu, p, tk, tn, r, u⟩ k).st := by
  have hc := g.parts.2.2.1
  simp [childrenFit, places] at hc
  obtain ⟨h0, k0, h1, k1, rfl, q0, q1⟩ := fits_two hc
  have R := g.rq H
  have hs0 : h0.text.size ≤ 20000 := R.1.2.tl
  have hl0 : (typeS h0).length ≤ 1000000000000 := by have := typeS_len h0 hs0; omega
  simp only [opt, Bool.or_eq_true] at q1
  by_cases h9 : (h1.kind == 9) = true
  · have h9' : h1.kind = 9 := by simpa using h9
    exact (rvar_no t nu p tk tn r u h0 k0 h1 k1 g.tl _ rfl hs0 hl0 (by rw [h9']; rfl)).text (by
      show _ = varS _ [rcT n h0 k0, rcT n h1 k1]
      simp [varS, nth, rcT_h, h9'])
  · have h9' : ¬ h1.kind = 9 := by simpa using h9
    have q : exprK h1.kind = true := by rcases q1 with q | q; exact absurd q h9; exact q
    exact (rvar_yes t nu p tk tn r u h0 k0 h1 k1 g.tl _ rfl hs0 hl0 _ (R.2.1.1.ex q) R.2.1.2.exl (by simpa using h9')).text (by
      show _ = varS _ [rcT n h0 k0, rcT n h1 k1]
      simp [varS, nth, rcT_h, h9'])
theorem ps_6 {n : Nat} {k : Fo} (t : ByteArray) (nu p tk : Int) (tn : ByteArray) (r u : Int) (g : Gd n ⟨6, t, nu, p, tk, tn, r, u⟩ k) (H : k.All RP) : CX 104 (n : Int) ⟨6, t, nu, p, tk, tn, r, u⟩ k (rcT n ⟨6, t, nu, p, tk, tn, r, u⟩ k).st := by
  exact rs_6 t nu p tk tn r u k _ (var_rp t nu p tk tn r u g H)
theorem if_rp {n : Nat} {k : Fo} (t : ByteArray) (nu p tk : Int) (tn : ByteArray) (r u : Int) (g : Gd n ⟨18, t, nu, p, tk, tn, r, u⟩ k) (H : k.All RP) : CX 118 (n : Int) ⟨18, t, nu, p, tk, tn, r, u⟩ k (rcT n ⟨18, t, nu, p, tk, tn, r, u⟩ k).st := by
  have hc := g.parts.2.2.1
  simp [childrenFit, places] at hc
  obtain ⟨h0, k0, h1, k1, h2, k2, rfl, q0, q1, q2⟩ := fits_three hc
  have R := g.rq H
  have e1 := one_kind q1
  simp at e1
  have P1 := R.2.1.1.bl e1
  have l1 := R.2.1.2.stl
  rw [st_10 n h1 k1 e1] at P1 l1
  simp only [opt, Bool.or_eq_true] at q2
  by_cases h9 : (h2.kind == 9) = true
  · have h9' : h2.kind = 9 := by simpa using h9
    exact (rif_no t nu p tk tn r u h0 k0 h1 k1 h2 k2 g.tl _ (R.1.1.ex q0) R.1.2.exl _ P1 l1 (by rw [h9']; rfl) (by rw [h9']; rfl)).text (by
      show _ = stS n ⟨18, t, nu, p, tk, tn, r, u⟩ (linesS (n + 1) [rcT (n + 1) h0 k0, rcT (n + 1) h1 k1, rcT (n + 1) h2 k2]) [rcT n h0 k0, rcT n h1 k1, rcT n h2 k2]
      simp [stS, nth, rcT_h, h9'])
  · have h9' : ¬ h2.kind = 9 := by simpa using h9
    have e2 : h2.kind = 10 ∨ h2.kind = 18 := by
      rcases q2 with q | q
      · exact absurd q h9
      · have := one_kind q
        simpa using this
    have et : [105, 102, 32] ++ (rcT n h0 k0).ex ++ [32] ++ blkS n (rcT n h1 k1).ls ++ ([32, 101, 108, 115, 101, 32] ++ (rcT n h2 k2).st) = (rcT n ⟨18, t, nu, p, tk, tn, r, u⟩ (.cons h0 k0 (.cons h1 k1 (.cons h2 k2 .nil)))).st := by
      show _ = stS n ⟨18, t, nu, p, tk, tn, r, u⟩ (linesS (n + 1) [rcT (n + 1) h0 k0, rcT (n + 1) h1 k1, rcT (n + 1) h2 k2]) [rcT n h0 k0, rcT n h1 k1, rcT n h2 k2]
      simp [stS, nth, rcT_h, h9']
    rcases e2 with e2 | e2
    · exact (rif_bl t nu p tk tn r u h0 k0 h1 k1 h2 k2 g.tl _ (R.1.1.ex q0) R.1.2.exl _ P1 l1 _ (R.2.2.1.1.bl e2) R.2.2.1.2.stl (by rw [e2]; rfl)).text et
    · exact (rif_if t nu p tk tn r u h0 k0 h1 k1 h2 k2 g.tl _ (R.1.1.ex q0) R.1.2.exl _ P1 l1 _ (R.2.2.1.1.fi e2) R.2.2.1.2.stl (by rw [e2]; rfl) (by rw [e2]; rfl)).text et
theorem ps_18 {n : Nat} {k : Fo} (t : ByteArray) (nu p tk : Int) (tn : ByteArray) (r u : Int) (g : Gd n ⟨18, t, nu, p, tk, tn, r, u⟩ k) (H : k.All RP) : CX 104 (n : Int) ⟨18, t, nu, p, tk, tn, r, u⟩ k (rcT n ⟨18, t, nu, p, tk, tn, r, u⟩ k).st := by
  exact rs_18 t nu p tk tn r u k _ (if_rp t nu p tk tn r u g H)
theorem ps_19 {n : Nat} {k : Fo} (t : ByteArray) (nu p tk : Int) (tn : ByteArray) (r u : Int) (g : Gd n ⟨19, t, nu, p, tk, tn, r, u⟩ k) (H : k.All RP) : CX 104 (n : Int) ⟨19, t, nu, p, tk, tn, r, u⟩ k (rcT n ⟨19, t, nu, p, tk, tn, r, u⟩ k).st := by
  have hc := g.parts.2.2.1
  simp [childrenFit, places] at hc
  obtain ⟨h0, k0, h1, k1, rfl, q0, q1⟩ := fits_two hc
  have R := g.rq H
  have e1 := one_kind q1
  simp at e1
  have P1 := R.2.1.1.bl e1
  have l1 := R.2.1.2.stl
  rw [st_10 n h1 k1 e1] at P1 l1
  simp only [opt, Bool.or_eq_true] at q0
  by_cases h9 : (h0.kind == 9) = true
  · have h9' : h0.kind = 9 := by simpa using h9
    exact (rs_19n t nu p tk tn r u h0 k0 h1 k1 g.tl _ P1 l1 h9).text (by
      show _ = stS n ⟨19, t, nu, p, tk, tn, r, u⟩ (linesS (n + 1) [rcT (n + 1) h0 k0, rcT (n + 1) h1 k1]) [rcT n h0 k0, rcT n h1 k1]
      simp [stS, nth, rcT_h, h9'])
  · have h9f : (h0.kind == 9) = false := by simpa using h9
    have h9' : ¬ h0.kind = 9 := by simpa using h9
    have q : exprK h0.kind = true := by rcases q0 with q | q; exact absurd q h9; exact q
    exact (rs_19y t nu p tk tn r u h0 k0 h1 k1 g.tl _ (R.1.1.ex q) R.1.2.exl _ P1 l1 h9f).text (by
      show _ = stS n ⟨19, t, nu, p, tk, tn, r, u⟩ (linesS (n + 1) [rcT (n + 1) h0 k0, rcT (n + 1) h1 k1]) [rcT n h0 k0, rcT n h1 k1]
      simp [stS, nth, rcT_h, h9'])
theorem ps_20 {n : Nat} {k : Fo} (t : ByteArray) (nu p tk : Int) (tn : ByteArray) (r u : Int) (g : Gd n ⟨20, t, nu, p, tk, tn, r, u⟩ k) (H : k.All RP) : CX 104 (n : Int) ⟨20, t, nu, p, tk, tn, r, u⟩ k (rcT n ⟨20, t, nu, p, tk, tn, r, u⟩ k).st := by
  have hc := g.parts.2.2.1
  simp [childrenFit, places] at hc
  obtain ⟨hm, hA⟩ := fits_rep hc
  have R := g.rq H
  match k, hm, hA, R, g with
  | .nil, _, _, _, g => exact (rs_20n t nu p tk tn r u g.tl).text (by show _ = stS n ⟨20, t, nu, p, tk, tn, r, u⟩ (linesS (n + 1) []) []; simp [stS])
  | .cons h0 k0 .nil, _, hA, R, g => exact (rs_20 t nu p tk tn r u h0 k0 g.tl _ (R.1.1.ex hA.1) R.1.2.exl).text (by
      show _ = stS n ⟨20, t, nu, p, tk, tn, r, u⟩ (linesS (n + 1) [rcT (n + 1) h0 k0]) [rcT n h0 k0]
      simp [stS, nth])
  | .cons h0 k0 (.cons h1 k1 r'), hm, _, _, _ => simp only [Fo.len] at hm; omega
theorem case_rp {n : Nat} {h : Hd} {k : Fo} (e : h.kind = 23) (g : Gd n h k) (H : k.All RP) : CaseR n h k (rcT n h k).st := by
  have hc := g.parts.2.2.1
  have R := g.rq H
  obtain ⟨kd, t, nu, p, tk, tn, r, u⟩ := h
  obtain rfl : kd = 23 := e
  simp [childrenFit, places] at hc
  obtain ⟨h0, k0, h1, k1, rfl, q0, q1⟩ := fits_two hc
  have e1 := one_kind q1
  simp at e1
  simp only [opt, Bool.or_eq_true] at q0
  refine ⟨h0, k0, h1, k1, (rcT n h0 k0).st, (rcT n h1 k1).ls, rfl, R.2.1.1.ln e1, ?_⟩
  by_cases h9 : (h0.kind == 9) = true
  · left
    refine ⟨h9, ?_⟩
    have h9' : h0.kind = 9 := by simpa using h9
    show stS n ⟨23, t, nu, p, tk, tn, r, u⟩ (linesS (n + 1) [rcT (n + 1) h0 k0, rcT (n + 1) h1 k1]) [rcT n h0 k0, rcT n h1 k1] = _
    simp [stS, caseS, nth, rcT_h, h9']
  · right
    have h9f : (h0.kind == 9) = false := by simpa using h9
    have h9' : ¬ h0.kind = 9 := by simpa using h9
    have q : stmtK h0.kind = true := by
      rcases q0 with q | q
      · exact absurd q h9
      · simp only [commT, Bool.or_eq_true, Bool.and_eq_true, beq_iff_eq] at q
        rcases q with q | ⟨(q | q) | q, _⟩ <;> rw [q] <;> rfl
    refine ⟨h9f, R.1.1.st q, ?_⟩
    show stS n ⟨23, t, nu, p, tk, tn, r, u⟩ (linesS (n + 1) [rcT (n + 1) h0 k0, rcT (n + 1) h1 k1]) [rcT n h0 k0, rcT n h1 k1] = _
    simp [stS, caseS, nth, rcT_h, h9']
theorem ps_22 {n : Nat} {k : Fo} (t : ByteArray) (nu p tk : Int) (tn : ByteArray) (r u : Int) (g : Gd n ⟨22, t, nu, p, tk, tn, r, u⟩ k) (H : k.All RP) : CX 104 (n : Int) ⟨22, t, nu, p, tk, tn, r, u⟩ k (rcT n ⟨22, t, nu, p, tk, tn, r, u⟩ k).st := by
  have hc := g.parts.2.2.1
  simp [childrenFit, places] at hc
  have hA := (fits_rep hc).2
  have hcn := g.c
  have hd := g.d
  have hl := g.stl
  have R := g.rq H
  have hC : k.All fun h' k' => CaseR n h' k' (rcT n h' k').st := all_imp (fun h k hh => hh.1.1.cs (by have := one_kind hh.2; simpa using this)) (all_and R hA)
  have et : [115, 101, 108, 101, 99, 116, 32, 123, 10] ++ catF (fun h k => T.tabs n ++ (rcT n h k).st) k ++ T.tabs n ++ [125] = (rcT n ⟨22, t, nu, p, tk, tn, r, u⟩ k).st := by rw [catF_tabs]; rfl
  exact rs_22 t nu p tk tn r u k _ ((rselect_any n (by omega) _ k _ hC (by have := k.len_le_cnt; omega) (by rw [et]; exact hl)).text et)
theorem stmt_rp {n : Nat} {h : Hd} {k : Fo} (he : stmtK h.kind = true) (g : Gd n h k) (H : k.All RP) : CX 104 (n : Int) h k (rcT n h k).st := by
  obtain ⟨kd, t, nu, p, tk, tn, r, u⟩ := h
  simp only [stmtK, Bool.or_eq_true, beq_iff_eq] at he
  rcases he with ((((((((((((rfl | rfl) | rfl) | rfl) | rfl) | rfl) | rfl) | rfl) | rfl) | rfl) | rfl) | rfl) | rfl) | rfl
  · exact ps_6 t nu p tk tn r u g H
  · exact ps_10 t nu p tk tn r u g H
  · exact ps_11 t nu p tk tn r u g H
  · exact ps_12 t nu p tk tn r u g H
  · exact ps_13 t nu p tk tn r u g H
  · exact ps_14 t nu p tk tn r u g H
  · exact ps_15 t nu p tk tn r u g H
  · exact ps_16 t nu p tk tn r u g H
  · exact ps_17 t nu p tk tn r u g H
  · exact ps_21 t nu p tk tn r u g H
  · exact ps_18 t nu p tk tn r u g H
  · exact ps_19 t nu p tk tn r u g H
  · exact ps_20 t nu p tk tn r u g H
  · exact ps_22 t nu p tk tn r u g H
theorem fi_rp {n : Nat} {h : Hd} {k : Fo} (e : h.kind = 18) (g : Gd n h k) (H : k.All RP) : CX 118 (n : Int) h k (rcT n h k).st := by
  obtain ⟨kd, t, nu, p, tk, tn, r, u⟩ := h
  obtain rfl : kd = 18 := e
  exact if_rp t nu p tk tn r u g H
theorem rp_any (h : Hd) (k : Fo) : RP h k := Fo.ind (fun h k H n g => ⟨fun e => expr_rp e g H, fun e => stmt_rp e g H, fun e => block_rp e g H, fun e => fi_rp e g H, fun e => lines_rp e g H, fun e => case_rp e g H⟩) h k
theorem all_rp : ∀ F : Fo, F.All RP
  | .nil => trivial
  | .cons h k r => ⟨rp_any h k, all_rp r⟩
theorem field_r {n : Nat} {h : Hd} {k : Fo} (e : h.kind = 3) (g : Gd n h k) : FieldR h k (rcT n h k).st := by
  have hc := g.parts.2.2.1
  have gk := g.kids
  obtain ⟨kd, t, nu, p, tk, tn, r, u⟩ := h
  obtain rfl : kd = 3 := e
  simp [childrenFit, places] at hc
  obtain ⟨h0, k0, rfl, q0⟩ := fits_one hc
  exact ⟨h0, k0, rfl, rfl, gk.1.tl⟩
theorem fields_r {n : Nat} {k : Fo} (g : k.All (Gd n)) (hA : k.All fun h k => one [3] h k = true) : k.All fun h' k' => FieldR h' k' (rcT n h' k').st :=
  all_imp (fun h k hh => field_r (by have := one_kind hh.2; simpa using this) hh.1) (all_and g hA)
theorem catF_fields : ∀ F : Fo, catF (fun h k => [9] ++ (rcT 1 h k).st ++ [10]) F = linesS 1 (rcF F 1) := fun F => catF_lines 1 F
theorem dr_2 {k : Fo} (t : ByteArray) (nu p tk : Int) (tn : ByteArray) (r u : Int) (g : Gd 0 ⟨2, t, nu, p, tk, tn, r, u⟩ k) : DX ⟨2, t, nu, p, tk, tn, r, u⟩ k (rcT 0 ⟨2, t, nu, p, tk, tn, r, u⟩ k).st := by
  have hc := g.parts.2.2.1
  have hcn := g.c
  have hl := g.stl
  simp [childrenFit, places] at hc
  have e : [116, 121, 112, 101, 32] ++ t.data.toList ++ [32, 115, 116, 114, 117, 99, 116, 32, 123, 10] ++ catF (fun h k => [9] ++ (rcT 1 h k).st ++ [10]) k ++ [125] = (rcT 0 ⟨2, t, nu, p, tk, tn, r, u⟩ k).st := by
    rw [catF_fields]
    show _ = [116, 121, 112, 101, 32] ++ t.data.toList ++ [32, 115, 116, 114, 117, 99, 116, 32] ++ blkS 0 (linesS 1 (rcF k 1))
    simp [blkS, T.tabs]
  rw [← e] at hl ⊢
  exact rd_2 t nu p tk tn r u k _ (fields_r g.kids1 (fits_rep hc).2) (by have := k.len_le_cnt; omega) hl
theorem dr_4 {k : Fo} (t : ByteArray) (nu p tk : Int) (tn : ByteArray) (r u : Int) (g : Gd 0 ⟨4, t, nu, p, tk, tn, r, u⟩ k) : DX ⟨4, t, nu, p, tk, tn, r, u⟩ k (rcT 0 ⟨4, t, nu, p, tk, tn, r, u⟩ k).st := by
  have hc := g.parts.2.2.1
  have hcn := g.c
  have hl := g.stl
  simp [childrenFit, places] at hc
  obtain ⟨h0, k0, h1, k1, h2, k2, rfl, q0, q1, q2⟩ := fits_three hc
  have e0 := one_kind q0
  have e2 := one_kind q2
  simp at e0 e2
  have g0 := g.kids.1
  have c0 := g0.parts.2.2.1
  have P2 := (rp_any h2 k2 0 g.kids.2.2.1).bl e2
  rw [st_10 0 h2 k2 e2] at P2
  have ej : (rcT 0 h0 k0).st = joinF (fun h k => (rcT 0 h k).st) k0 := by
    rw [joinF_st]
    obtain ⟨kd, t, nu, p, tk, tn, r, u⟩ := h0
    obtain rfl : kd = 5 := e0
    rfl
  have hA : k0.All fun h k => one [3] h k = true := by
    obtain ⟨kd, t, nu, p, tk, tn, r, u⟩ := h0
    obtain rfl : kd = 5 := e0
    simp [childrenFit, places] at c0
    exact (fits_rep c0).2
  have hF := fields_r g0.kids hA
  have hm0 : k0.len ≤ 1048576 := by have := k0.len_le_cnt; simp only [Fo.cnt] at hcn; omega
  have hs1 : h1.text.size ≤ 20000 := g.kids.2.1.tl
  by_cases h9 : (h1.kind == 9) = true
  · have h9' : h1.kind = 9 := by simpa using h9
    have e : [102, 117, 110, 99, 32] ++ t.data.toList ++ [40] ++ joinF (fun h k => (rcT 0 h k).st) k0 ++ [41, 32] ++ blkS 0 (rcT 0 h2 k2).ls = (rcT 0 ⟨4, t, nu, p, tk, tn, r, u⟩ (.cons h0 k0 (.cons h1 k1 (.cons h2 k2 .nil)))).st := by
      show _ = stS 0 ⟨4, t, nu, p, tk, tn, r, u⟩ (linesS (0 + 1) [rcT (0 + 1) h0 k0, rcT (0 + 1) h1 k1, rcT (0 + 1) h2 k2]) [rcT 0 h0 k0, rcT 0 h1 k1, rcT 0 h2 k2]
      simp [stS, nth, rcT_h, h9', ej]
    rw [← e] at hl ⊢
    exact rd_4n t nu p tk tn r u h0 k0 h1 k1 h2 k2 _ _ hF P2 hs1 (by rw [h9']; rfl) hm0 hl
  · have h9' : ¬ h1.kind = 9 := by simpa using h9
    have e : [102, 117, 110, 99, 32] ++ t.data.toList ++ [40] ++ joinF (fun h k => (rcT 0 h k).st) k0 ++ [41, 32] ++ (typeS h1 ++ [32]) ++ blkS 0 (rcT 0 h2 k2).ls = (rcT 0 ⟨4, t, nu, p, tk, tn, r, u⟩ (.cons h0 k0 (.cons h1 k1 (.cons h2 k2 .nil)))).st := by
      show _ = stS 0 ⟨4, t, nu, p, tk, tn, r, u⟩ (linesS (0 + 1) [rcT (0 + 1) h0 k0, rcT (0 + 1) h1 k1, rcT (0 + 1) h2 k2]) [rcT 0 h0 k0, rcT 0 h1 k1, rcT 0 h2 k2]
      simp [stS, nth, rcT_h, h9', ej]
    rw [← e] at hl ⊢
    exact rd_4y t nu p tk tn r u h0 k0 h1 k1 h2 k2 _ _ hF P2 hs1 (by simpa using h9') hm0 hl
theorem decl_r {h : Hd} {k : Fo} (e : declT h k = true) (g : Gd 0 h k) : DX h k (rcT 0 h k).st := by
  obtain ⟨kd, t, nu, p, tk, tn, r, u⟩ := h
  simp only [declT, Bool.or_eq_true, Bool.and_eq_true, beq_iff_eq] at e
  rcases e with (rfl | rfl) | ⟨rfl, hl⟩
  · exact dr_2 t nu p tk tn r u g
  · exact dr_4 t nu p tk tn r u g
  · exact rd_6 t nu p tk tn r u k _ (var_rp (n := 0) t nu p tk tn r u g (all_rp k))
theorem catF_file : ∀ F : Fo, catF (fun h k => (rcT 0 h k).st ++ [10]) F = fileS F
  | .nil => rfl
  | .cons h k r => by simp only [catF, catF_file r]; unfold fileS; rw [rcF_cons]; simp
theorem nm_nmv' : (nm : ByteArray → Bool) = nmv := funext fun s => M.nmS_eq _
/-- The specification's Print returns the model's text. -/
theorem rprint_any (h : Hd) (F : Fo) (A : Option Addr) (cap : Nat) (w : World) (hk : Kids (Lt w.heap.size) w A F) (hn : numIx h) (hF : F.AllH numIx) (hm : F.cnt + 1 ≤ 1048576) : RT 24 #[nv h A F.len cap] w (tx (printT nm h F)) := by
  have hO : Ok h F := ⟨hn, hF, by omega⟩
  by_cases hv : validT nm h F = true
  · rw [show printT nm h F = fileS F from if_pos hv]
    have hv0 := hv
    unfold validT at hv
    rw [permT_dep, Bool.and_eq_true, Bool.and_eq_true] at hv
    obtain ⟨hkk, ho, hd⟩ := hv
    have hd' : F.dep + 1 ≤ 50 := by simpa using hd
    have hp := ho
    unfold okT at hp
    simp only [Bool.and_eq_true] at hp
    obtain ⟨⟨⟨p1, p2⟩, p3⟩, p4⟩ := hp
    have hs := sh_kids p4 hF
    have g : Gd 0 h F := ⟨ho, ⟨text_len p1, num_bd hn⟩, hs, by omega, hm⟩
    have hk1 : h.kind = 1 := by simpa using hkk
    have hA : F.All fun h k => declT h k = true := by
      obtain ⟨kd, t, nu, p, tk, tn, r, u⟩ := h
      obtain rfl : kd = 1 := hk1
      simp [childrenFit, places] at p3
      exact (fits_rep p3).2
    have hD : F.All fun h' k' => DX h' k' (rcT 0 h' k').st := all_imp (fun h k hh => decl_r hh.1 hh.2) (all_and hA g.kids)
    have hl : (fileS F).length ≤ 1000000000000 := by have := fileS_len F (by omega) hs; omega
    rw [← catF_file] at hl ⊢
    exact rprint_yes h F A cap w hO hk (by rw [← nm_nmv']; exact hv0) _ hD hl
  · have hv : validT nm h F = false := by simpa using hv
    rw [show printT nm h F = [] from if_neg (by rw [hv]; simp)]
    exact rprint_no h F A cap w hO hk (by rw [← nm_nmv']; exact hv)
end Go.Proofs.YticbcnhbpbaocaaGreatDoor
