/-
  The laws CodeKinds, CodeValid.
-/
import Derived.Test.YtcjkhbggongcjaaEH
import Derived.Test.YtcjkhbggongcjaaRI
set_option linter.all false
namespace Go.Proofs.Ytcjkhbggongcjaa
open Go.RowKit C
set_option maxRecDepth 100000 in
set_option maxHeartbeats 4000000 in
theorem law_CodeKinds (op : Int) (w : World) : Calls Try.prog 5 #[.int .i64 op] w fun e w' => e = .returned (.bool true) ∧ Below w.heap.size w w' := by
  have HW := Lib.hid (awake_any w)
  have H1 : Hid (∀ V, Calls Try.prog 16 #[.int .i64 op] V fun e w' => e = .returned (.bool (visB op)) ∧ V = w') := Lib.hid fun V => cvisible_any op V
  have H2 : Hid (∀ V, Calls Try.prog 17 #[.int .i64 op] V fun e w' => e = .returned (.bool (visB op)) ∧ V = w') := Lib.hid fun V => rvisible_any op V
  have H3 : Hid (∀ V, Calls Try.prog 18 #[.int .i64 op] V fun e w' => e = .returned (.bool (accB op)) ∧ V = w') := Lib.hid fun V => caccess_any op V
  have H4 : Hid (∀ V, Calls Try.prog 19 #[.int .i64 op] V fun e w' => e = .returned (.bool (accB op)) ∧ V = w') := Lib.hid fun V => raccess_any op V
  obtain ⟨a, ha⟩ : ∃ a, visB op = a := ⟨_, rfl⟩
  obtain ⟨b, hb⟩ : ∃ b, accB op = b := ⟨_, rfl⟩
  rw [ha] at H1 H2
  rw [hb] at H3 H4
  clear ha hb
  go_enter Try.func5, Try.ntmps5
  go_wp2_with fail
  refine HW.out.mono ?_
  rintro e w1 ⟨rfl, hw1⟩
  cases a <;> cases b
  all_goals
    go_wp2_with (first
      | (go_at_call 16; (with_reducible refine (H1.out _).mono ?_); rintro e w2 ⟨rfl, rfl⟩)
      | (go_at_call 17; (with_reducible refine (H2.out _).mono ?_); rintro e w2 ⟨rfl, rfl⟩)
      | (go_at_call 18; (with_reducible refine (H3.out _).mono ?_); rintro e w2 ⟨rfl, rfl⟩)
      | (go_at_call 19; (with_reducible refine (H4.out _).mono ?_); rintro e w2 ⟨rfl, rfl⟩))
    go_ret
    exact ⟨rfl, hw1⟩
set_option maxRecDepth 100000 in
set_option maxHeartbeats 4000000 in
theorem law_CodeValid (p : Pg) (A B D : Option Addr) (ca cb cd : Nat) (w : World) (hp : PgAt w p A B D ca cb cd) : Calls Try.prog 3 #[pv p A B D ca cb cd] w fun e w' => e = .returned (.bool true) ∧ Below w.heap.size w w' := by
  have HN := Lib.hid (B1.new p A B D ca cb cd w)
  have HC : Hid (∀ V, Below w.heap.size w V → Calls Try.prog 11 #[pv p A B D ca cb cd] V fun e w' => e = .returned (.bool (validB p)) ∧ Below V.heap.size V w') := Lib.hid fun V hV => valid_any p A B D ca cb cd V (hp.below hV)
  have HR : Hid (∀ V, Below w.heap.size w V → Calls Try.prog 12 #[pv p A B D ca cb cd] V fun e w' => e = .returned (.bool (validB p)) ∧ Below V.heap.size V w') := Lib.hid fun V hV => rvalid_any p A B D ca cb cd V (hp.below hV)
  have HW : Hid (∀ V, Calls Try.prog 10 #[] V fun e w' => e = .returned (.bool true) ∧ Below V.heap.size V w') := Lib.hid awake_any
  clear hp
  cases hb : validB p with
  | false =>
    simp only [hb] at HC HR
    clear hb
    go_enter Try.func3, Try.ntmps3
    go_wp2_with fail
    refine wp_region_class (B1 p A B D ca cb cd w) (by kernel_rfl) (by kernel_rfl) (B1.drew HN.out) ?_
    go_big_quiet_want
    refine quiet_intro (.bool true) (fun V hV => ?_) ?_
    · have hVB := Lib.hid hV
      go_simp
      refine (HW.out _).mono ?_
      rintro e V' ⟨rfl, hbb⟩
      exact ⟨rfl, hVB.out.keep hbb⟩
    try simp only [Act.put, List.setIfInBounds_toArray, List.set_cons_zero, List.set_cons_succ]
    go_big_quiet_on
    go_big_quiet_want
    go_big_quiet_op
    go_big_quiet_on
    go_big_quiet_want
    refine quiet_intro (pv p A B D ca cb cd) (fun V hV => ?_) ?_
    · obtain ⟨y00, y01, y02, y03, yb⟩ := hV
      go_simp
    try simp only [Act.put, List.setIfInBounds_toArray, List.set_cons_zero, List.set_cons_succ]
    go_big_quiet_on
    go_big_quiet_want
    refine quiet_intro (.bool false) (fun V hV => ?_) ?_
    · have hVB := Lib.hid hV
      go_simp
      refine (HC.out _ hVB.out.bel).mono ?_
      rintro e V' ⟨rfl, hbb⟩
      exact ⟨rfl, hVB.out.keep hbb⟩
    try simp only [Act.put, List.setIfInBounds_toArray, List.set_cons_zero, List.set_cons_succ]
    go_big_quiet_on
    go_big_quiet_want
    refine quiet_intro (pv p A B D ca cb cd) (fun V hV => ?_) ?_
    · obtain ⟨y00, y01, y02, y03, yb⟩ := hV
      go_simp
    try simp only [Act.put, List.setIfInBounds_toArray, List.set_cons_zero, List.set_cons_succ]
    go_big_quiet_on
    go_big_quiet_want
    refine quiet_intro (.bool false) (fun V hV => ?_) ?_
    · have hVB := Lib.hid hV
      go_simp
      refine (HR.out _ hVB.out.bel).mono ?_
      rintro e V' ⟨rfl, hbb⟩
      exact ⟨rfl, hVB.out.keep hbb⟩
    try simp only [Act.put, List.setIfInBounds_toArray, List.set_cons_zero, List.set_cons_succ]
    go_big_quiet_on
    go_big_quiet_want
    refine quiet_intro (.bool true) (fun V hV => ?_) ?_
    · obtain ⟨y00, y01, y02, y03, yb⟩ := hV
      go_simp
    try simp only [Act.put, List.setIfInBounds_toArray, List.set_cons_zero, List.set_cons_succ]
    go_big_quiet_on
    go_big_quiet_want
    refine quiet_intro (.bool true) (fun V hV => ?_) ?_
    · obtain ⟨y00, y01, y02, y03, yb⟩ := hV
      go_simp
    try simp only [Act.put, List.setIfInBounds_toArray, List.set_cons_zero, List.set_cons_succ]
    go_big_quiet_on
    go_big_quiet_want
    go_big_quiet_op
    go_big_quiet_on
    refine wpQuiet_nil ?_
    intro W hW
    have hb := hW.bel
    clear hW
    go_wp2
    go_ret
    exact ⟨rfl, hb⟩
  | true =>
    simp only [hb] at HC HR
    clear hb
    go_enter Try.func3, Try.ntmps3
    go_wp2_with fail
    refine wp_region_class (B1 p A B D ca cb cd w) (by kernel_rfl) (by kernel_rfl) (B1.drew HN.out) ?_
    go_big_quiet_want
    refine quiet_intro (.bool true) (fun V hV => ?_) ?_
    · have hVB := Lib.hid hV
      go_simp
      refine (HW.out _).mono ?_
      rintro e V' ⟨rfl, hbb⟩
      exact ⟨rfl, hVB.out.keep hbb⟩
    try simp only [Act.put, List.setIfInBounds_toArray, List.set_cons_zero, List.set_cons_succ]
    go_big_quiet_on
    go_big_quiet_want
    go_big_quiet_op
    go_big_quiet_on
    go_big_quiet_want
    refine quiet_intro (pv p A B D ca cb cd) (fun V hV => ?_) ?_
    · obtain ⟨y00, y01, y02, y03, yb⟩ := hV
      go_simp
    try simp only [Act.put, List.setIfInBounds_toArray, List.set_cons_zero, List.set_cons_succ]
    go_big_quiet_on
    go_big_quiet_want
    refine quiet_intro (.bool true) (fun V hV => ?_) ?_
    · have hVB := Lib.hid hV
      go_simp
      refine (HC.out _ hVB.out.bel).mono ?_
      rintro e V' ⟨rfl, hbb⟩
      exact ⟨rfl, hVB.out.keep hbb⟩
    try simp only [Act.put, List.setIfInBounds_toArray, List.set_cons_zero, List.set_cons_succ]
    go_big_quiet_on
    go_big_quiet_want
    refine quiet_intro (pv p A B D ca cb cd) (fun V hV => ?_) ?_
    · obtain ⟨y00, y01, y02, y03, yb⟩ := hV
      go_simp
    try simp only [Act.put, List.setIfInBounds_toArray, List.set_cons_zero, List.set_cons_succ]
    go_big_quiet_on
    go_big_quiet_want
    refine quiet_intro (.bool true) (fun V hV => ?_) ?_
    · have hVB := Lib.hid hV
      go_simp
      refine (HR.out _ hVB.out.bel).mono ?_
      rintro e V' ⟨rfl, hbb⟩
      exact ⟨rfl, hVB.out.keep hbb⟩
    try simp only [Act.put, List.setIfInBounds_toArray, List.set_cons_zero, List.set_cons_succ]
    go_big_quiet_on
    go_big_quiet_want
    refine quiet_intro (.bool true) (fun V hV => ?_) ?_
    · obtain ⟨y00, y01, y02, y03, yb⟩ := hV
      go_simp
    try simp only [Act.put, List.setIfInBounds_toArray, List.set_cons_zero, List.set_cons_succ]
    go_big_quiet_on
    go_big_quiet_want
    refine quiet_intro (.bool true) (fun V hV => ?_) ?_
    · obtain ⟨y00, y01, y02, y03, yb⟩ := hV
      go_simp
    try simp only [Act.put, List.setIfInBounds_toArray, List.set_cons_zero, List.set_cons_succ]
    go_big_quiet_on
    go_big_quiet_want
    go_big_quiet_op
    go_big_quiet_on
    refine wpQuiet_nil ?_
    intro W hW
    have hb := hW.bel
    clear hW
    go_wp2
    go_ret
    exact ⟨rfl, hb⟩
end Go.Proofs.Ytcjkhbggongcjaa
