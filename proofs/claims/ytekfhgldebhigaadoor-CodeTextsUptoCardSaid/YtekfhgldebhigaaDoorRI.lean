/-
  The walk of the specification's Valid.
-/
import Derived.Test.YtekfhgldebhigaaDoorRH
set_option linter.all false
namespace Go.Proofs.YtekfhgldebhigaaDoor
open Go.RowKit C
theorem nodup_take {α : Type} {l : List α} {nm : α → ByteArray} {k : Nat} (h : k < l.length) (h0 : ((l.take k).map nm).Nodup) (hn : ∀ j (hj : j < k), nm (l[j]'(by omega)) ≠ nm l[k]) : ((l.take (k + 1)).map nm).Nodup := by
  rw [List.take_succ_eq_append_getElem h, List.map_append]
  refine List.nodup_append.2 ⟨h0, by simp, ?_⟩
  intro a ha b hb e
  simp only [List.map_cons, List.map_nil, List.mem_singleton] at hb
  obtain ⟨z, hz, rfl⟩ := List.mem_map.1 ha
  obtain ⟨j, hj, rfl⟩ := List.mem_iff_getElem.1 hz
  simp only [List.length_take] at hj
  refine hn j (by omega) ?_
  rw [← hb, ← e]; simp
theorem nodup_bad {α : Type} {l : List α} {nm : α → ByteArray} {j k : Nat} (h : k < l.length) (hj : j < k) (e : nm (l[j]'(by omega)) = nm l[k]) : ¬ (l.map nm).Nodup := by
  intro hn
  have := (List.pairwise_iff_getElem.1 hn) j k (by simp; omega) (by simp; omega) hj
  simp at this
  exact this e
def glOk (g : Gl) : Bool := decide (¬ g.name.data.toList = [] ∧ (g.kind = 0 ∨ g.kind = 1))
/-- The box of a variable stands. -/
def BG (x : Gl) (b : Nat) (V : World) : Prop := V.cell? ⟨b, 0, none⟩ = some (.string x.name) ∧ V.cell? ⟨b, 1, none⟩ = some (.int .i64 x.kind)
theorem BG.new (x : Gl) (w : World) : BG x w.heap.size (w.alloc (.cells #[.string x.name, .int .i64 x.kind] 45)) := by
  have h := heap_alloc_new w (.cells #[.string x.name, .int .i64 x.kind] 45)
  refine ⟨?_, ?_⟩ <;> (rw [cell_of_row _ _ _ _ _ _ h]; rfl)
theorem BG.keep {x : Gl} {b : Nat} {V W : World} (h : BG x b V) (hb : Below V.heap.size V W) : BG x b W := ⟨cell_bel h.1 hb, cell_bel h.2 hb⟩
/-- What is asked before the names. -/
def headB (p : Pg) : Bool := decide (p.funcs.length ≤ 64 ∧ p.globals.length ≤ 64) && layoutsB p.layouts && decide (0 ≤ p.main ∧ p.main < len p.funcs ∧ (p.funcs.getD p.main.toNat default).params = 0)
theorem validB_head {p : Pg} (h : headB p = true) : validB p = (p.globals.all glOk && decide ((p.globals.map (·.name)).Nodup) && p.funcs.all (functionB p) && decide ((p.funcs.map (·.name)).Nodup)) := by
  unfold validB
  unfold headB at h
  rw [h, Bool.true_and]; rfl
theorem validB_nohead {p : Pg} (h : headB p = false) : validB p = false := by
  unfold validB
  unfold headB at h
  rw [h]; rfl
set_option maxRecDepth 100000 in
set_option maxHeartbeats 16000000 in
theorem rvalid_any (p : Pg) (A B D : Option Addr) (ca cb cd : Nat) (w : World) (hp : PgAt w p A B D ca cb cd) :
    Calls Tryd.prog 6 #[pv p A B D ca cb cd] w fun e w' => e = .returned (.bool (validB p)) ∧ Below w.heap.size w w' := by
  have HN : Hid (B1 p A B D ca cb cd w _) := Lib.hid (B1.new p A B D ca cb cd w)
  have HBL := Lib.hid (below1 w (.cells #[.slice A p.funcs.length ca, .slice B p.globals.length cb, .slice D p.layouts.length cd, .int .i64 p.main] 26))
  have hm1 := hp.ka.2
  have hm2 := hp.kb.2
  have hm3 := hp.kd.2
  unfold maxLen at hm1 hm2 hm3
  have HP := Lib.hid hp
  have HLY : Hid (∀ V, Hid (Below w.heap.size w V) → Calls Tryd.prog 18 #[.slice D p.layouts.length cd] V fun e w' => e = .returned (.bool (layoutsB p.layouts)) ∧ V = w') := Lib.hid fun V hV => layouts_any D p.layouts cd V HP.out.kd.2 (HP.out.below hV.out).ls
  clear hp
  go_enter Tryd.func6, Tryd.ntmps6
  by_cases l1 : 64 < p.funcs.length
  · have d1 : decide ((64 : Int) < (p.funcs.length : Int)) = true := by simp; omega
    have HE : Hid (validB p = false) := Lib.hid (validB_nohead (by unfold headB; simp; intros; omega))
    go_wp2
    go_ret
    exact ⟨retb HE.out.symm, below1 _ _⟩
  · have d1 : decide ((64 : Int) < (p.funcs.length : Int)) = false := by simp; omega
    by_cases l2 : 64 < p.globals.length
    · have d2 : decide ((64 : Int) < (p.globals.length : Int)) = true := by simp; omega
      have HE : Hid (validB p = false) := Lib.hid (validB_nohead (by unfold headB; simp; intros; omega))
      go_wp2
      go_ret
      exact ⟨retb HE.out.symm, below1 _ _⟩
    · have d2 : decide ((64 : Int) < (p.globals.length : Int)) = false := by simp; omega
      cases hl : layoutsB p.layouts with
      | false =>
        simp only [hl] at HLY
        have HE : Hid (validB p = false) := Lib.hid (validB_nohead (by unfold headB; rw [hl]; simp))
        clear hl
        go_wp2_with (go_at_call 18; (with_reducible refine (HLY.out _ (Lib.hid (below1 _ _))).mono ?_); rintro e w3 ⟨rfl, rfl⟩)
        go_ret
        exact ⟨retb HE.out.symm, below1 _ _⟩
      | true =>
        simp only [hl] at HLY
        by_cases m1 : p.main < 0
        · have d3 : decide (p.main < 0) = true := by simp; omega
          have HE : Hid (validB p = false) := Lib.hid (validB_nohead (by unfold headB; simp; intros; omega))
          clear hl
          go_wp2_with (go_at_call 18; (with_reducible refine (HLY.out _ (Lib.hid (below1 _ _))).mono ?_); rintro e w3 ⟨rfl, rfl⟩)
          go_ret
          exact ⟨retb HE.out.symm, below1 _ _⟩
        · have d3 : decide (p.main < 0) = false := by simp; omega
          by_cases m2 : p.main < (p.funcs.length : Int)
          · have d4 : decide ((p.funcs.length : Int) ≤ p.main) = false := by simp; omega
            obtain ⟨gA, oA, rfl, hA⟩ := HP.out.fs.at (by omega)
            have hh := (hA p.main.toNat (by omega)).below HBL.out
            have hget := getD_at (by omega : 0 ≤ p.main) m2
            obtain ⟨y, hy⟩ : ∃ y, p.funcs[p.main.toNat]'(by omega) = y := ⟨_, rfl⟩
            rw [hy] at hh hget
            have z1 := hh.c1
            have HAA := Lib.hid hA
            have k0 : 0 ≤ p.main := by omega
            have HGT := Lib.hid hget
            clear hh hy hA hget
            by_cases m3 : y.params = 0
            · have e3 : ((y.params : Int) != 0) = false := by simp [m3]
              have HHD : Hid (validB p = (p.globals.all glOk && decide ((p.globals.map (·.name)).Nodup) && p.funcs.all (functionB p) && decide ((p.funcs.map (·.name)).Nodup))) := Lib.hid (validB_head (by
                unfold headB; rw [hl, HGT.out]; simp [C.len, m3]; omega))
              clear hl m3
              go_wp2_with (go_at_call 18; (with_reducible refine (HLY.out _ (Lib.hid (below1 _ _))).mono ?_); rintro e w3 ⟨rfl, rfl⟩)
              clear z1 e3
              go_loopw [3] (fun i wr => ∃ k : Nat, k ≤ p.globals.length ∧ i = .int .i64 k ∧ Hid ((p.globals.take k).all glOk = true) ∧ Hid (((p.globals.take k).map (·.name)).Nodup) ∧ Hid (B1 p (some ⟨gA, oA, none⟩) B D ca cb cd w wr)) (fun i _ => p.globals.length - (intOf i).toNat)
              case atStart => exact ⟨0, Nat.zero_le _, rfl, Lib.hid rfl, Lib.hid (by simp), HN⟩
              case round =>
                clear HN
                obtain ⟨k, hk, rfl, hall, hnd, hbx⟩ := hrel
                obtain ⟨y00, y01, y02, y03, yb⟩ := hbx.out
                have HYB := Lib.hid yb
                clear yb
                have m0 : w.heap.size < wr.heap.size := by have := World.block_lt_of_cell? wr _ y00; simpa using this
                have n0 : w.heap.size ≠ wr.heap.size := by omega
                by_cases hlt : k < p.globals.length
                · obtain ⟨gB, oB, rfl, hB⟩ := HP.out.gs.at (by omega)
                  have HBB := Lib.hid hB
                  have hx := (hB k hlt).below HYB.out
                  obtain ⟨x, hxe⟩ : ∃ x, p.globals[k] = x := ⟨_, rfl⟩
                  rw [hxe] at hx
                  have q0 := hx.c0
                  have q1 := hx.c1
                  have HX := Lib.hid hxe
                  have hg0 := Lib.hid (BG.new x wr)
                  clear hx hxe hB
                  have HBadG : Hid (glOk x = false → validB p = false) := Lib.hid fun h => by rw [HHD.out, all_bad hlt (by rw [HX.out]; exact h)]; rfl
                  by_cases hn : x.name.data.toList = []
                  · have n1 : x.name.toList = [] := by rw [ByteArray.toList_eq]; exact hn
                    have n2 : x.name.toList.isEmpty = true := by simp [n1]
                    have HE : Hid (validB p = false) := Lib.hid (HBadG.out (by unfold glOk; simp [hn]))
                    clear hn
                    go_wp2
                    go_ret
                    exact ⟨retb HE.out.symm, HYB.out.trans ((below1 _ _).mono HYB.out.size)⟩
                  · have n1 : ¬ x.name.toList = [] := by rw [ByteArray.toList_eq]; exact hn
                    have n2 : x.name.toList.isEmpty = false := by simp [n1]
                    by_cases hk01 : x.kind = 0 ∨ x.kind = 1
                    · have HG : Hid (glOk x = true) := Lib.hid (by unfold glOk; simp only [decide_eq_true_eq]; exact ⟨hn, hk01⟩)
                      clear hn
                      by_cases hk0 : x.kind = 0
                      · have e1 : ((x.kind : Int) != 0) = false := by simp [hk0]
                        clear hk01 hk0
                        go_wp2
                        clear y00 y01 y02 y03 q0 q1
                        go_loopw [5] (fun i V => ∃ j : Nat, j ≤ k ∧ i = .int .i64 j ∧ Hid (∀ j' (hj : j' < j) (hl : j' < p.globals.length), p.globals[j'].name ≠ x.name) ∧ Hid (B1 p (some ⟨gA, oA, none⟩) (some ⟨gB, oB, none⟩) D ca cb cd w V) ∧ Hid (BG x wr.heap.size V)) (fun i _ => k - (intOf i).toNat)
                        case atStart => exact ⟨0, Nat.zero_le _, rfl, Lib.hid (by intro j hj; omega), Lib.hid (hbx.out.keep (below1 _ _)), hg0⟩
                        case round =>
                          rename World => W0
                          obtain ⟨j, hj, rfl, hne, hbv, hgv⟩ := hrel
                          obtain ⟨y00, y01, y02, y03, yb⟩ := hbv.out
                          have HYV := Lib.hid yb
                          obtain ⟨g0, g1⟩ := hgv.out
                          by_cases hjk : j < k
                          · have hxj := (HBB.out j (by omega)).below yb
                            obtain ⟨z, hze⟩ : ∃ z, p.globals[j]'(by omega) = z := ⟨_, rfl⟩
                            rw [hze] at hxj
                            have q0 := hxj.c0
                            have HZ := Lib.hid hze
                            clear hxj hze yb
                            have jj0 : (0 : Int) ≤ (j : Int) := by omega
                            have jj1 : (j : Int) < (p.globals.length : Int) := by omega
                            go_wp2_with fail
                            go_quiet (fail)
                            go_wp2
                            · rename_i hc
                              have hxy : z.name = x.name := by simp only [beq_iff_eq] at hc; rw [ByteArray.toList_eq, ByteArray.toList_eq] at hc; exact ByteArray.ext (Array.toList_inj.1 hc)
                              have HE : Hid (validB p = false) := Lib.hid (by rw [HHD.out, decide_eq_false (nodup_bad (nm := fun f : Gl => f.name) hlt hjk (by rw [HZ.out, HX.out]; exact hxy)), Bool.and_false]; rfl)
                              go_ret
                              exact ⟨retb HE.out.symm, HYV.out.trans ((below_drew _ _).mono HYV.out.size)⟩
                            · rename_i hc
                              have hxy : ¬ z.name = x.name := fun e => by rw [e] at hc; simp at hc
                              have HNE : Hid (∀ j' (hj : j' < j + 1) (hl : j' < p.globals.length), p.globals[j'].name ≠ x.name) := Lib.hid (by
                                intro j' hj' hl
                                rcases Nat.lt_or_ge j' j with h | h
                                · exact hne.out j' h hl
                                · obtain rfl : j' = j := by omega
                                  rw [HZ.out]; exact hxy)
                              go_roundw
                              case rel => exact ⟨j + 1, by omega, by go_num, HNE, Lib.hid (hbv.out.keep (below_drew _ _)), Lib.hid (hgv.out.keep (below_drew _ _))⟩
                              case measure => simp [intOf]; omega
                          · obtain rfl : j = k := by omega
                            clear yb
                            have HND : Hid (((p.globals.take (j + 1)).map (·.name)).Nodup) := Lib.hid (nodup_take hlt hnd.out (fun j' hj' => by rw [HX.out]; exact hne.out j' hj' (by omega)))
                            have HT : Hid ((p.globals.take (j + 1)).all glOk = true) := Lib.hid (by rw [all_take hlt, hall.out, HX.out, HG.out]; rfl)
                            go_wp2
                            go_roundw
                            case rel => exact ⟨j + 1, by omega, by go_num, HT, HND, hbv⟩
                            case measure => simp [intOf]; omega
                      · have e1 : ((x.kind : Int) != 0) = true := by simp [hk0]
                        have e2 : ((x.kind : Int) != 1) = false := by simp; omega
                        clear hk01 hk0
                        go_wp2
                        clear y00 y01 y02 y03 q0 q1
                        go_loopw [5] (fun i V => ∃ j : Nat, j ≤ k ∧ i = .int .i64 j ∧ Hid (∀ j' (hj : j' < j) (hl : j' < p.globals.length), p.globals[j'].name ≠ x.name) ∧ Hid (B1 p (some ⟨gA, oA, none⟩) (some ⟨gB, oB, none⟩) D ca cb cd w V) ∧ Hid (BG x wr.heap.size V)) (fun i _ => k - (intOf i).toNat)
                        case atStart => exact ⟨0, Nat.zero_le _, rfl, Lib.hid (by intro j hj; omega), Lib.hid (hbx.out.keep (below1 _ _)), hg0⟩
                        case round =>
                          rename World => W0
                          obtain ⟨j, hj, rfl, hne, hbv, hgv⟩ := hrel
                          obtain ⟨y00, y01, y02, y03, yb⟩ := hbv.out
                          have HYV := Lib.hid yb
                          obtain ⟨g0, g1⟩ := hgv.out
                          by_cases hjk : j < k
                          · have hxj := (HBB.out j (by omega)).below yb
                            obtain ⟨z, hze⟩ : ∃ z, p.globals[j]'(by omega) = z := ⟨_, rfl⟩
                            rw [hze] at hxj
                            have q0 := hxj.c0
                            have HZ := Lib.hid hze
                            clear hxj hze yb
                            have jj0 : (0 : Int) ≤ (j : Int) := by omega
                            have jj1 : (j : Int) < (p.globals.length : Int) := by omega
                            go_wp2_with fail
                            go_quiet (fail)
                            go_wp2
                            · rename_i hc
                              have hxy : z.name = x.name := by simp only [beq_iff_eq] at hc; rw [ByteArray.toList_eq, ByteArray.toList_eq] at hc; exact ByteArray.ext (Array.toList_inj.1 hc)
                              have HE : Hid (validB p = false) := Lib.hid (by rw [HHD.out, decide_eq_false (nodup_bad (nm := fun f : Gl => f.name) hlt hjk (by rw [HZ.out, HX.out]; exact hxy)), Bool.and_false]; rfl)
                              go_ret
                              exact ⟨retb HE.out.symm, HYV.out.trans ((below_drew _ _).mono HYV.out.size)⟩
                            · rename_i hc
                              have hxy : ¬ z.name = x.name := fun e => by rw [e] at hc; simp at hc
                              have HNE : Hid (∀ j' (hj : j' < j + 1) (hl : j' < p.globals.length), p.globals[j'].name ≠ x.name) := Lib.hid (by
                                intro j' hj' hl
                                rcases Nat.lt_or_ge j' j with h | h
                                · exact hne.out j' h hl
                                · obtain rfl : j' = j := by omega
                                  rw [HZ.out]; exact hxy)
                              go_roundw
                              case rel => exact ⟨j + 1, by omega, by go_num, HNE, Lib.hid (hbv.out.keep (below_drew _ _)), Lib.hid (hgv.out.keep (below_drew _ _))⟩
                              case measure => simp [intOf]; omega
                          · obtain rfl : j = k := by omega
                            clear yb
                            have HND : Hid (((p.globals.take (j + 1)).map (·.name)).Nodup) := Lib.hid (nodup_take hlt hnd.out (fun j' hj' => by rw [HX.out]; exact hne.out j' hj' (by omega)))
                            have HT : Hid ((p.globals.take (j + 1)).all glOk = true) := Lib.hid (by rw [all_take hlt, hall.out, HX.out, HG.out]; rfl)
                            go_wp2
                            go_roundw
                            case rel => exact ⟨j + 1, by omega, by go_num, HT, HND, hbv⟩
                            case measure => simp [intOf]; omega
                    · have e1 : ((x.kind : Int) != 0) = true := by simp; omega
                      have e2 : ((x.kind : Int) != 1) = true := by simp; omega
                      have HE : Hid (validB p = false) := Lib.hid (HBadG.out (by unfold glOk; simp only [decide_eq_false_iff_not]; intro h; exact hk01 h.2))
                      clear hn hk01
                      go_wp2
                      go_ret
                      exact ⟨retb HE.out.symm, HYB.out.trans ((below1 _ _).mono HYB.out.size)⟩
                · obtain rfl : k = p.globals.length := by omega
                  have HG : Hid (validB p = (p.funcs.all (functionB p) && decide ((p.funcs.map (·.name)).Nodup))) := Lib.hid (by
                    have h1 := hall.out
                    have h2 := hnd.out
                    rw [List.take_length] at h1 h2
                    rw [HHD.out, h1, decide_eq_true h2]; rfl)
                  have hbx0 := hbx
                  clear hall hnd hlt
                  go_wp2
                  clear y00 y01 y02 y03
                  go_loopw [6] (fun i wr => ∃ k : Nat, k ≤ p.funcs.length ∧ i = .int .i64 k ∧ Hid ((p.funcs.take k).all (functionB p) = true) ∧ Hid (((p.funcs.take k).map (·.name)).Nodup) ∧ Hid (B1 p (some ⟨gA, oA, none⟩) B D ca cb cd w wr)) (fun i _ => p.funcs.length - (intOf i).toNat)
                  case atStart => exact ⟨0, Nat.zero_le _, rfl, Lib.hid rfl, Lib.hid (by simp), hbx0⟩
                  case round =>
                    clear hbx0 hbx HYB m0 n0
                    obtain ⟨k, hk, rfl, hall, hnd, hbx⟩ := hrel
                    obtain ⟨y00, y01, y02, y03, yb⟩ := hbx.out
                    have HYB := Lib.hid yb
                    clear yb
                    by_cases hlt : k < p.funcs.length
                    · have hx := HAA.out k hlt
                      obtain ⟨x, hxe⟩ : ∃ x, p.funcs[k] = x := ⟨_, rfl⟩
                      rw [hxe] at hx
                      have HX := Lib.hid hxe
                      obtain ⟨Ax, cx, qq3, hvv⟩ := hx.ok
                      have HV := Lib.hid hvv
                      have HFN := Lib.hid hx
                      have HQ3 := Lib.hid qq3
                      have HC : Hid (∀ V, Below w.heap.size w V → Calls Tryd.prog 19 #[pv p (some ⟨gA, oA, none⟩) B D ca cb cd, fv x Ax cx] V fun e w' => e = .returned (.bool (functionB p x)) ∧ Below V.heap.size V w') := Lib.hid fun V hV => function_any p (some ⟨gA, oA, none⟩) B D ca cb cd x Ax cx V (HP.out.below hV) (HV.out.below hV)
                      clear hx hxe hvv qq3
                      have kk0 : (0 : Int) ≤ (k : Int) := by omega
                      have kk1 : (k : Int) < (p.funcs.length : Int) := by omega
                      cases hfb : functionB p x with
                      | false =>
                        simp only [hfb] at HC
                        have HE : Hid (validB p = false) := Lib.hid (by rw [HG.out, all_bad hlt (by rw [HX.out]; exact hfb)]; rfl)
                        clear hfb
                        go_wp2_with fail
                        clear y00 y01 y02 y03
                        refine wp_region_class (B1 p (some ⟨gA, oA, none⟩) B D ca cb cd w) (by kernel_rfl) (by kernel_rfl) (B1.drew hbx.out) ?_
                        go_big_quiet_want
                        refine quiet_intro (pv p (some ⟨gA, oA, none⟩) B D ca cb cd) (fun V hV => ?_) ?_
                        · obtain ⟨y00, y01, y02, y03, yb⟩ := hV
                          go_simp
                        try simp only [Act.put, List.setIfInBounds_toArray, List.set_cons_zero, List.set_cons_succ]
                        go_big_quiet_on
                        go_big_quiet_want
                        refine quiet_intro (.pointer (some ⟨w.heap.size, 0, none⟩)) (fun V hV => ?_) ?_
                        · obtain ⟨y00, y01, y02, y03, yb⟩ := hV
                          go_simp
                        try simp only [Act.put, List.setIfInBounds_toArray, List.set_cons_zero, List.set_cons_succ]
                        go_big_quiet_on
                        go_big_quiet_want
                        refine quiet_intro (.slice (some ⟨gA, oA, none⟩) p.funcs.length ca) (fun V hV => ?_) ?_
                        · obtain ⟨y00, y01, y02, y03, yb⟩ := hV
                          go_simp
                        try simp only [Act.put, List.setIfInBounds_toArray, List.set_cons_zero, List.set_cons_succ]
                        go_big_quiet_on
                        go_big_quiet_want
                        go_big_quiet_op
                        go_big_quiet_on
                        go_big_quiet_want
                        refine quiet_intro (.pointer (some ⟨gA, oA + k * 4, none⟩)) (fun V hV => ?_) ?_
                        · obtain ⟨y00, y01, y02, y03, yb⟩ := hV
                          go_simp
                        try simp only [Act.put, List.setIfInBounds_toArray, List.set_cons_zero, List.set_cons_succ]
                        go_big_quiet_on
                        go_big_quiet_want
                        refine quiet_intro (fv x Ax cx) (fun V hV => ?_) ?_
                        · obtain ⟨y00, y01, y02, y03, yb⟩ := hV
                          have hf1 := HFN.out.below yb
                          have u0 := hf1.c0
                          have u1 := hf1.c1
                          have u2 := hf1.c2
                          have u3 := (bl_cell yb HFN.out.lt).trans HQ3.out
                          clear hf1
                          go_simp
                        try simp only [Act.put, List.setIfInBounds_toArray, List.set_cons_zero, List.set_cons_succ]
                        go_big_quiet_on
                        go_big_quiet_want
                        refine quiet_intro (.bool false) (fun V hV => ?_) ?_
                        · have hVB := Lib.hid hV
                          go_simp
                          refine (HC.out _ hVB.out.bel).mono ?_
                          rintro e V' ⟨rfl, hbb⟩
                          exact ⟨rfl, hVB.out.keep hbb⟩
                        try simp only [Act.put, List.setIfInBounds_toArray, List.set_cons_zero, List.set_cons_succ]
                        go_big_quiet_on
                        go_big_quiet_want
                        refine quiet_intro (.bool true) (fun V hV => ?_) ?_
                        · obtain ⟨y00, y01, y02, y03, yb⟩ := hV
                          go_simp
                        try simp only [Act.put, List.setIfInBounds_toArray, List.set_cons_zero, List.set_cons_succ]
                        go_big_quiet_on
                        refine wpQuiet_nil ?_
                        intro W hW
                        obtain ⟨y00, y01, y02, y03, yb⟩ := hW
                        go_wp2
                        go_ret
                        exact ⟨retb HE.out.symm, yb⟩
                      | true =>
                        simp only [hfb] at HC
                        have HT : Hid ((p.funcs.take (k + 1)).all (functionB p) = true) := Lib.hid (by rw [all_take hlt, hall.out, HX.out, hfb]; rfl)
                        clear hfb
                        go_wp2_with fail
                        clear y00 y01 y02 y03
                        refine wp_region_class (B1 p (some ⟨gA, oA, none⟩) B D ca cb cd w) (by kernel_rfl) (by kernel_rfl) (B1.drew hbx.out) ?_
                        go_big_quiet_want
                        refine quiet_intro (pv p (some ⟨gA, oA, none⟩) B D ca cb cd) (fun V hV => ?_) ?_
                        · obtain ⟨y00, y01, y02, y03, yb⟩ := hV
                          go_simp
                        try simp only [Act.put, List.setIfInBounds_toArray, List.set_cons_zero, List.set_cons_succ]
                        go_big_quiet_on
                        go_big_quiet_want
                        refine quiet_intro (.pointer (some ⟨w.heap.size, 0, none⟩)) (fun V hV => ?_) ?_
                        · obtain ⟨y00, y01, y02, y03, yb⟩ := hV
                          go_simp
                        try simp only [Act.put, List.setIfInBounds_toArray, List.set_cons_zero, List.set_cons_succ]
                        go_big_quiet_on
                        go_big_quiet_want
                        refine quiet_intro (.slice (some ⟨gA, oA, none⟩) p.funcs.length ca) (fun V hV => ?_) ?_
                        · obtain ⟨y00, y01, y02, y03, yb⟩ := hV
                          go_simp
                        try simp only [Act.put, List.setIfInBounds_toArray, List.set_cons_zero, List.set_cons_succ]
                        go_big_quiet_on
                        go_big_quiet_want
                        go_big_quiet_op
                        go_big_quiet_on
                        go_big_quiet_want
                        refine quiet_intro (.pointer (some ⟨gA, oA + k * 4, none⟩)) (fun V hV => ?_) ?_
                        · obtain ⟨y00, y01, y02, y03, yb⟩ := hV
                          go_simp
                        try simp only [Act.put, List.setIfInBounds_toArray, List.set_cons_zero, List.set_cons_succ]
                        go_big_quiet_on
                        go_big_quiet_want
                        refine quiet_intro (fv x Ax cx) (fun V hV => ?_) ?_
                        · obtain ⟨y00, y01, y02, y03, yb⟩ := hV
                          have hf1 := HFN.out.below yb
                          have u0 := hf1.c0
                          have u1 := hf1.c1
                          have u2 := hf1.c2
                          have u3 := (bl_cell yb HFN.out.lt).trans HQ3.out
                          clear hf1
                          go_simp
                        try simp only [Act.put, List.setIfInBounds_toArray, List.set_cons_zero, List.set_cons_succ]
                        go_big_quiet_on
                        go_big_quiet_want
                        refine quiet_intro (.bool true) (fun V hV => ?_) ?_
                        · have hVB := Lib.hid hV
                          go_simp
                          refine (HC.out _ hVB.out.bel).mono ?_
                          rintro e V' ⟨rfl, hbb⟩
                          exact ⟨rfl, hVB.out.keep hbb⟩
                        try simp only [Act.put, List.setIfInBounds_toArray, List.set_cons_zero, List.set_cons_succ]
                        go_big_quiet_on
                        go_big_quiet_want
                        refine quiet_intro (.bool false) (fun V hV => ?_) ?_
                        · obtain ⟨y00, y01, y02, y03, yb⟩ := hV
                          go_simp
                        try simp only [Act.put, List.setIfInBounds_toArray, List.set_cons_zero, List.set_cons_succ]
                        go_big_quiet_on
                        refine wpQuiet_nil ?_
                        intro W hW
                        obtain ⟨y00, y01, y02, y03, yb⟩ := hW
                        have hbW := Lib.hid (⟨y00, y01, y02, y03, yb⟩ : B1 p (some ⟨gA, oA, none⟩) B D ca cb cd w W)
                        clear yb
                        go_wp2
                        clear y00 y01 y02 y03
                        go_loopw [7] (fun i wr => ∃ j : Nat, j ≤ k ∧ i = .int .i64 j ∧ Hid (∀ j' (hj : j' < j) (hl : j' < p.funcs.length), p.funcs[j'].name ≠ x.name) ∧ Hid (B1 p (some ⟨gA, oA, none⟩) B D ca cb cd w wr)) (fun i _ => k - (intOf i).toNat)
                        case atStart => exact ⟨0, Nat.zero_le _, rfl, Lib.hid (by intro j hj; omega), hbW⟩
                        case round =>
                          clear hbW hbx HYB
                          obtain ⟨j, hj, rfl, hne, hbx⟩ := hrel
                          obtain ⟨y00, y01, y02, y03, yb⟩ := hbx.out
                          have HYB := Lib.hid yb
                          by_cases hjk : j < k
                          · have hxj := (HAA.out j (by omega)).below yb
                            obtain ⟨z, hze⟩ : ∃ z, p.funcs[j]'(by omega) = z := ⟨_, rfl⟩
                            rw [hze] at hxj
                            have q0 := hxj.c0
                            have r0 := (HFN.out.below yb).c0
                            have HZ := Lib.hid hze
                            clear hxj hze yb
                            have jj0 : (0 : Int) ≤ (j : Int) := by omega
                            have jj1 : (j : Int) < (p.funcs.length : Int) := by omega
                            go_wp2_with fail
                            go_quiet (fail)
                            go_wp2
                            · rename_i hc
                              have hxy : z.name = x.name := by simp only [beq_iff_eq] at hc; rw [ByteArray.toList_eq, ByteArray.toList_eq] at hc; exact ByteArray.ext (Array.toList_inj.1 hc)
                              have HE : Hid (validB p = false) := Lib.hid (by rw [HG.out, decide_eq_false (nodup_bad (nm := fun f : Fc => f.name) hlt hjk (by rw [HZ.out, HX.out]; exact hxy)), Bool.and_false])
                              go_ret
                              exact ⟨retb HE.out.symm, HYB.out.trans ((below_drew _ _).mono HYB.out.size)⟩
                            · rename_i hc
                              have hxy : ¬ z.name = x.name := fun e => by rw [e] at hc; simp at hc
                              have HNE : Hid (∀ j' (hj : j' < j + 1) (hl : j' < p.funcs.length), p.funcs[j'].name ≠ x.name) := Lib.hid (by
                                intro j' hj' hl
                                rcases Nat.lt_or_ge j' j with h | h
                                · exact hne.out j' h hl
                                · obtain rfl : j' = j := by omega
                                  rw [HZ.out]; exact hxy)
                              go_roundw
                              case rel => exact ⟨j + 1, by omega, by go_num, HNE, Lib.hid (hbx.out.keep (below_drew _ _))⟩
                              case measure => simp [intOf]; omega
                          · obtain rfl : j = k := by omega
                            clear yb
                            have HND : Hid (((p.funcs.take (j + 1)).map (·.name)).Nodup) := Lib.hid (nodup_take hlt hnd.out (fun j' hj' => by rw [HX.out]; exact hne.out j' hj' (by omega)))
                            go_wp2
                            go_roundw
                            case rel => exact ⟨j + 1, by omega, by go_num, HT, HND, hbx⟩
                            case measure => simp [intOf]; omega
                    · obtain rfl : k = p.funcs.length := by omega
                      have HE : Hid (validB p = true) := Lib.hid (by
                        have h1 := hall.out
                        have h2 := hnd.out
                        rw [List.take_length] at h1 h2
                        rw [HG.out, h1, decide_eq_true h2]; rfl)
                      go_wp2
                      go_ret
                      exact ⟨retb HE.out.symm, HYB.out⟩
            · have e3 : ((y.params : Int) != 0) = true := by simp [m3]
              have HE : Hid (validB p = false) := Lib.hid (validB_nohead (by unfold headB; rw [HGT.out]; simp [m3]))
              clear hl m3
              go_wp2_with (go_at_call 18; (with_reducible refine (HLY.out _ (Lib.hid (below1 _ _))).mono ?_); rintro e w3 ⟨rfl, rfl⟩)
              go_ret
              exact ⟨retb HE.out.symm, below1 _ _⟩
          · have d4 : decide ((p.funcs.length : Int) ≤ p.main) = true := by simp; omega
            have HE : Hid (validB p = false) := Lib.hid (validB_nohead (by unfold headB; simp [C.len]; intros; omega))
            clear hl
            go_wp2_with (go_at_call 18; (with_reducible refine (HLY.out _ (Lib.hid (below1 _ _))).mono ?_); rintro e w3 ⟨rfl, rfl⟩)
            go_ret
            exact ⟨retb HE.out.symm, below1 _ _⟩
end Go.Proofs.YtekfhgldebhigaaDoor
