/-
  The walks of the program's isType, isName, valid, isReference.
-/
import Derived.Test.YtijhdlmnoinfiaaGreatDoorFA
set_option linter.all false
namespace Go.Proofs.YtijhdlmnoinfiaaGreatDoor
open Go.RowKit T T.Fo Ty

/-- A block that holds a row of nodes. -/
def Blk (w : World) (g : Nat) (l : List El) : Prop := w.heap[g]? = some (.cells (ecells l).toArray 26 (0, 0))
theorem Blk.cell {w : World} {g : Nat} {l : List El} (h : Blk w g l) (j : Nat) (v : Value) (hv : (ecells l)[j]? = some v) : w.cell? ⟨g, 0 + j, none⟩ = some v := by
  unfold Blk at h
  rw [Nat.zero_add]
  simp [World.cell?, h, hv]
theorem Blk.kids {w : World} {g : Nat} {l : List El} {S : Nat → Prop} (h : Blk w g l) (hg : S g) (he : Els S w l) : Kids S w (some ⟨g, 0, none⟩) (fo l) :=
  .inr ⟨g, 0, rfl, lies_of_cells hg l 0 he h.cell⟩

theorem els1 {S : Nat → Prop} {w : World} {e : El} (h : e.k.len ≤ e.cap ∧ Kids S w e.A e.k) : Els S w [e] := fun x hx => by
  rw [List.mem_singleton] at hx; subst hx; exact h
theorem els2 {S : Nat → Prop} {w : World} {e f : El} (h : e.k.len ≤ e.cap ∧ Kids S w e.A e.k) (h' : f.k.len ≤ f.cap ∧ Kids S w f.A f.k) : Els S w [e, f] := fun x hx => by
  rcases List.mem_cons.1 hx with rfl | hx
  · exact h
  · rw [List.mem_singleton] at hx; subst hx; exact h'
/-- The boxes of isType. -/
abbrev oN (h : Hd) (A : Option Addr) (n cap : Nat) : Obj := .cells (nc h A n cap) 26
abbrev o2N (h : Hd) (A : Option Addr) (n cap : Nat) : Obj := .cells #[.int .i64 h.kind, .string h.text, .int .i64 h.num, .int .i64 h.pos, .slice A n cap, .int .i64 h.tk, .string h.tn, .int .i64 h.ref, .int .i64 h.up, .int .i64 9, .string ⟨#[]⟩, .int .i64 0, .int .i64 0, .slice none 0 0, .int .i64 0, .string ⟨#[]⟩, .int .i64 0, .int .i64 0] 26
abbrev W4 (w : World) (h : Hd) (A : Option Addr) (n cap : Nat) : World :=
  (((w.alloc (oN h A n cap)).alloc (o2N h A n cap)).alloc (oN hVa (some ⟨w.heap.size + 1, 0, none⟩) 2 2)).alloc (oN hVa (some ⟨w.heap.size + 1, 0, none⟩) 2 2)
theorem w4_below (w : World) (h : Hd) (A : Option Addr) (n cap : Nat) : Below w.heap.size w (W4 w h A n cap) :=
  ((((Below.refl _ _).alloc (Nat.le_refl _) _).alloc (by simp) _).alloc (by simp; omega) _).alloc (by simp; omega) _
theorem w4_size (w : World) (h : Hd) (A : Option Addr) (n cap : Nat) : (W4 w h A n cap).heap.size = w.heap.size + 4 := by simp
theorem w4_kids (w : World) (h : Hd) (k : Fo) (A : Option Addr) (cap : Nat) (hk : Kids (Lt w.heap.size) w A k) (hc : k.len ≤ cap) :
    Kids (Lt (W4 w h A k.len cap).heap.size) (W4 w h A k.len cap) (some ⟨w.heap.size + 1 + 1 + 1, 0, none⟩) (fFi h k) := by
  have b2 : Blk (W4 w h A k.len cap) (w.heap.size + 1) [⟨h, k, A, cap⟩, ⟨hNo, .nil, none, 0⟩] := by
    show (W4 w h A k.len cap).heap[_]? = some (o2N h A k.len cap)
    rw [Below.heap_alloc _ _ _ (by simp), Below.heap_alloc _ _ _ (by simp)]
    have := heap_alloc_new (w.alloc (oN h A k.len cap)) (o2N h A k.len cap)
    simpa using this
  have b4 : Blk (W4 w h A k.len cap) (w.heap.size + 1 + 1 + 1) [⟨hVa, fVa h k, some ⟨w.heap.size + 1, 0, none⟩, 2⟩] := by
    show (W4 w h A k.len cap).heap[_]? = some (oN hVa (some ⟨w.heap.size + 1, 0, none⟩) 2 2)
    have := heap_alloc_new (((w.alloc (oN h A k.len cap)).alloc (o2N h A k.len cap)).alloc (oN hVa (some ⟨w.heap.size + 1, 0, none⟩) 2 2)) (oN hVa (some ⟨w.heap.size + 1, 0, none⟩) 2 2)
    simpa using this
  have hs := w4_size w h A k.len cap
  have k1 : Kids (Lt (W4 w h A k.len cap).heap.size) (W4 w h A k.len cap) A k := (hk.below (w4_below w h A k.len cap) (Nat.le_refl _)).mono (by omega)
  have k2 : Kids (Lt (W4 w h A k.len cap).heap.size) (W4 w h A k.len cap) (some ⟨w.heap.size + 1, 0, none⟩) (fVa h k) := b2.kids (by show _ < _; omega) (els2 ⟨hc, k1⟩ ⟨Nat.le_refl _, .inl rfl⟩)
  exact b4.kids (by show _ < _; omega) (els1 ⟨Nat.le_refl _, k2⟩)
set_option maxRecDepth 100000 in
set_option maxHeartbeats 4000000 in
theorem yIsType_any (h : Hd) (k : Fo) (A : Option Addr) (cap : Nat) (w : World) (hG : Glob w) (hk : Kids (Lt w.heap.size) w A k) (hc : k.len ≤ cap) (hn : numIx h) (hF : k.AllH numIx) (hm : k.cnt ≤ 1000000) :
    Calls Tryz.prog 37 #[nv h A k.len cap] w fun e w' => e = .returned (.bool (tyB h k)) ∧ Below w.heap.size w w' := by
  have hx : ∀ t : ByteArray, t.size ≤ 1 → t.size ≤ maxLen := fun t ht => by unfold maxLen; omega
  have HC : Hid (Calls Tryz.prog 45 #[nv hFi (some ⟨w.heap.size + 1 + 1 + 1, 0, none⟩) 1 1] (W4 w h A k.len cap) fun e w' => e = .returned (.bool (tyB h k)) ∧ Below w.heap.size w w') := Lib.hid (by
    rw [← asks]
    refine (valid_any hFi (fFi h k) (some ⟨w.heap.size + 1 + 1 + 1, 0, none⟩) 1 (W4 w h A k.len cap) (glob_below hG (w4_below _ _ _ _ _)) (w4_kids w h k A cap hk hc) ⟨by decide, hx _ (by decide)⟩ ⟨⟨by decide, hx _ (by decide)⟩, ⟨hn, hF, ⟨by decide, hx _ (by decide)⟩, trivial, trivial⟩, trivial⟩ (by simp only [fFi, fVa, Fo.cnt]; omega)).mono fun e w' hq => ⟨hq.1, (w4_below w h A k.len cap).trans (hq.2.mono ?_)⟩
    rw [w4_size]; omega)
  clear hG hk hn hF hm hx
  go_enter Tryz.func37, Tryz.ntmps37
  go_wp2_with fail
  refine HC.out.mono ?_
  rintro e w1 ⟨rfl, hb⟩
  have HB := Lib.hid hb
  clear hb
  go_wp2
  go_ret
  exact ⟨rfl, HB.out⟩
end Go.Proofs.YtijhdlmnoinfiaaGreatDoor
