/-
  The walks of the program's limits.
-/
import Derived.Test.YtekfhgldebhigaaDoorCC
set_option linter.all false
namespace Go.Proofs.YtekfhgldebhigaaDoor
open Go.RowKit C
theorem ret2 {a b c d : Int} (h1 : a = c) (h2 : b = d) : Ending.returned (.tuple #[.int .i64 a, .int .i64 b]) = .returned (.tuple #[.int .i64 c, .int .i64 d]) := by rw [h1, h2]
abbrev limV (p : Pg) (f : Fc) (q : UInt8) : Value := .tuple #[.int .i64 (limP p f q).1, .int .i64 (limP p f q).2]

set_option maxRecDepth 100000 in
set_option maxHeartbeats 2000000 in
theorem lim_d (p : Pg) (A B D : Option Addr) (ca cb cd : Nat) (f : Fc) (Af : Option Addr) (caf : Nat) (w : World) (hp : PgAt w p A B D ca cb cd) (hf : FvOk w f Af caf) (hr : 0 ≤ f.regs ∧ f.regs ≤ 64) :
    Calls Tryd.prog 69 #[pv p A B D ca cb cd, fv f Af caf, .int .u8 100] w fun e w' => e = .returned (limV p f 100) ∧ Below w.heap.size w w' := by
  have HL : Hid (limP p f 100 = (0, f.regs - 1)) := Lib.hid (by simp [limP, C.len])
  have r0 := hr.1
  have r1 := hr.2
  have l1 := hf.k.2
  have l2 := hp.ka.2
  have l3 := hp.kb.2
  have l4 := hp.kd.2
  unfold maxLen at l1 l2 l3 l4
  clear hp hf hr
  go_enter Tryd.func69, Tryd.ntmps69
  go_wp2_with fail
  go_quiet (fail)
  all_goals go_wp2
  all_goals
    go_ret2
    exact ⟨ret2 (by rw [HL.out]) (by rw [HL.out]), by first | exact bel_drewN (below2 _ _ _) _ | exact below2 _ _ _⟩
set_option maxRecDepth 100000 in
set_option maxHeartbeats 2000000 in
theorem lim_s (p : Pg) (A B D : Option Addr) (ca cb cd : Nat) (f : Fc) (Af : Option Addr) (caf : Nat) (w : World) (hp : PgAt w p A B D ca cb cd) (hf : FvOk w f Af caf) (hr : 0 ≤ f.regs ∧ f.regs ≤ 64) :
    Calls Tryd.prog 69 #[pv p A B D ca cb cd, fv f Af caf, .int .u8 115] w fun e w' => e = .returned (limV p f 115) ∧ Below w.heap.size w w' := by
  have HL : Hid (limP p f 115 = (0, f.regs - 1)) := Lib.hid (by simp [limP, C.len])
  have r0 := hr.1
  have r1 := hr.2
  have l1 := hf.k.2
  have l2 := hp.ka.2
  have l3 := hp.kb.2
  have l4 := hp.kd.2
  unfold maxLen at l1 l2 l3 l4
  clear hp hf hr
  go_enter Tryd.func69, Tryd.ntmps69
  go_wp2_with fail
  go_quiet (fail)
  all_goals go_wp2
  all_goals
    go_ret2
    exact ⟨ret2 (by rw [HL.out]) (by rw [HL.out]), by first | exact bel_drewN (below2 _ _ _) _ | exact below2 _ _ _⟩
set_option maxRecDepth 100000 in
set_option maxHeartbeats 2000000 in
theorem lim_dd (p : Pg) (A B D : Option Addr) (ca cb cd : Nat) (f : Fc) (Af : Option Addr) (caf : Nat) (w : World) (hp : PgAt w p A B D ca cb cd) (hf : FvOk w f Af caf) (hr : 0 ≤ f.regs ∧ f.regs ≤ 64) :
    Calls Tryd.prog 69 #[pv p A B D ca cb cd, fv f Af caf, .int .u8 68] w fun e w' => e = .returned (limV p f 68) ∧ Below w.heap.size w w' := by
  have HL : Hid (limP p f 68 = (-1, f.regs - 1)) := Lib.hid (by simp [limP, C.len])
  have r0 := hr.1
  have r1 := hr.2
  have l1 := hf.k.2
  have l2 := hp.ka.2
  have l3 := hp.kb.2
  have l4 := hp.kd.2
  unfold maxLen at l1 l2 l3 l4
  clear hp hf hr
  go_enter Tryd.func69, Tryd.ntmps69
  go_wp2_with fail
  go_quiet (fail)
  all_goals go_wp2
  all_goals
    go_ret2
    exact ⟨ret2 (by rw [HL.out]) (by rw [HL.out]), by first | exact bel_drewN (below2 _ _ _) _ | exact below2 _ _ _⟩
set_option maxRecDepth 100000 in
set_option maxHeartbeats 2000000 in
theorem lim_ss (p : Pg) (A B D : Option Addr) (ca cb cd : Nat) (f : Fc) (Af : Option Addr) (caf : Nat) (w : World) (hp : PgAt w p A B D ca cb cd) (hf : FvOk w f Af caf) (hr : 0 ≤ f.regs ∧ f.regs ≤ 64) :
    Calls Tryd.prog 69 #[pv p A B D ca cb cd, fv f Af caf, .int .u8 83] w fun e w' => e = .returned (limV p f 83) ∧ Below w.heap.size w w' := by
  have HL : Hid (limP p f 83 = (-1, f.regs - 1)) := Lib.hid (by simp [limP, C.len])
  have r0 := hr.1
  have r1 := hr.2
  have l1 := hf.k.2
  have l2 := hp.ka.2
  have l3 := hp.kb.2
  have l4 := hp.kd.2
  unfold maxLen at l1 l2 l3 l4
  clear hp hf hr
  go_enter Tryd.func69, Tryd.ntmps69
  go_wp2_with fail
  go_quiet (fail)
  all_goals go_wp2
  all_goals
    go_ret2
    exact ⟨ret2 (by rw [HL.out]) (by rw [HL.out]), by first | exact bel_drewN (below2 _ _ _) _ | exact below2 _ _ _⟩
set_option maxRecDepth 100000 in
set_option maxHeartbeats 2000000 in
theorem lim_p (p : Pg) (A B D : Option Addr) (ca cb cd : Nat) (f : Fc) (Af : Option Addr) (caf : Nat) (w : World) (hp : PgAt w p A B D ca cb cd) (hf : FvOk w f Af caf) (hr : 0 ≤ f.regs ∧ f.regs ≤ 64) :
    Calls Tryd.prog 69 #[pv p A B D ca cb cd, fv f Af caf, .int .u8 112] w fun e w' => e = .returned (limV p f 112) ∧ Below w.heap.size w w' := by
  have HL : Hid (limP p f 112 = (0, f.regs - 2)) := Lib.hid (by simp [limP, C.len])
  have r0 := hr.1
  have r1 := hr.2
  have l1 := hf.k.2
  have l2 := hp.ka.2
  have l3 := hp.kb.2
  have l4 := hp.kd.2
  unfold maxLen at l1 l2 l3 l4
  clear hp hf hr
  go_enter Tryd.func69, Tryd.ntmps69
  go_wp2_with fail
  go_quiet (fail)
  all_goals go_wp2
  all_goals
    go_ret2
    exact ⟨ret2 (by rw [HL.out]) (by rw [HL.out]), by first | exact bel_drewN (below2 _ _ _) _ | exact below2 _ _ _⟩
set_option maxRecDepth 100000 in
set_option maxHeartbeats 2000000 in
theorem lim_a (p : Pg) (A B D : Option Addr) (ca cb cd : Nat) (f : Fc) (Af : Option Addr) (caf : Nat) (w : World) (hp : PgAt w p A B D ca cb cd) (hf : FvOk w f Af caf) (hr : 0 ≤ f.regs ∧ f.regs ≤ 64) :
    Calls Tryd.prog 69 #[pv p A B D ca cb cd, fv f Af caf, .int .u8 97] w fun e w' => e = .returned (limV p f 97) ∧ Below w.heap.size w w' := by
  have HL : Hid (limP p f 97 = (0, f.regs)) := Lib.hid (by simp [limP, C.len])
  have r0 := hr.1
  have r1 := hr.2
  have l1 := hf.k.2
  have l2 := hp.ka.2
  have l3 := hp.kb.2
  have l4 := hp.kd.2
  unfold maxLen at l1 l2 l3 l4
  clear hp hf hr
  go_enter Tryd.func69, Tryd.ntmps69
  go_wp2_with fail
  go_quiet (fail)
  all_goals go_wp2
  all_goals
    go_ret2
    exact ⟨ret2 (by rw [HL.out]) (by rw [HL.out]), by first | exact bel_drewN (below2 _ _ _) _ | exact below2 _ _ _⟩
set_option maxRecDepth 100000 in
set_option maxHeartbeats 2000000 in
theorem lim_n (p : Pg) (A B D : Option Addr) (ca cb cd : Nat) (f : Fc) (Af : Option Addr) (caf : Nat) (w : World) (hp : PgAt w p A B D ca cb cd) (hf : FvOk w f Af caf) (hr : 0 ≤ f.regs ∧ f.regs ≤ 64) :
    Calls Tryd.prog 69 #[pv p A B D ca cb cd, fv f Af caf, .int .u8 110] w fun e w' => e = .returned (limV p f 110) ∧ Below w.heap.size w w' := by
  have HL : Hid (limP p f 110 = (0, 63)) := Lib.hid (by simp [limP, C.len])
  have r0 := hr.1
  have r1 := hr.2
  have l1 := hf.k.2
  have l2 := hp.ka.2
  have l3 := hp.kb.2
  have l4 := hp.kd.2
  unfold maxLen at l1 l2 l3 l4
  clear hp hf hr
  go_enter Tryd.func69, Tryd.ntmps69
  go_wp2
  all_goals
    go_ret2
    exact ⟨ret2 (by rw [HL.out]) (by rw [HL.out]), by first | exact bel_drewN (below2 _ _ _) _ | exact below2 _ _ _⟩
set_option maxRecDepth 100000 in
set_option maxHeartbeats 2000000 in
theorem lim_k (p : Pg) (A B D : Option Addr) (ca cb cd : Nat) (f : Fc) (Af : Option Addr) (caf : Nat) (w : World) (hp : PgAt w p A B D ca cb cd) (hf : FvOk w f Af caf) (hr : 0 ≤ f.regs ∧ f.regs ≤ 64) :
    Calls Tryd.prog 69 #[pv p A B D ca cb cd, fv f Af caf, .int .u8 107] w fun e w' => e = .returned (limV p f 107) ∧ Below w.heap.size w w' := by
  have HL : Hid (limP p f 107 = (0, 62)) := Lib.hid (by simp [limP, C.len])
  have r0 := hr.1
  have r1 := hr.2
  have l1 := hf.k.2
  have l2 := hp.ka.2
  have l3 := hp.kb.2
  have l4 := hp.kd.2
  unfold maxLen at l1 l2 l3 l4
  clear hp hf hr
  go_enter Tryd.func69, Tryd.ntmps69
  go_wp2
  all_goals
    go_ret2
    exact ⟨ret2 (by rw [HL.out]) (by rw [HL.out]), by first | exact bel_drewN (below2 _ _ _) _ | exact below2 _ _ _⟩
set_option maxRecDepth 100000 in
set_option maxHeartbeats 2000000 in
theorem lim_i (p : Pg) (A B D : Option Addr) (ca cb cd : Nat) (f : Fc) (Af : Option Addr) (caf : Nat) (w : World) (hp : PgAt w p A B D ca cb cd) (hf : FvOk w f Af caf) (hr : 0 ≤ f.regs ∧ f.regs ≤ 64) :
    Calls Tryd.prog 69 #[pv p A B D ca cb cd, fv f Af caf, .int .u8 105] w fun e w' => e = .returned (limV p f 105) ∧ Below w.heap.size w w' := by
  have HL : Hid (limP p f 105 = (-9223372036854775808, 9223372036854775807)) := Lib.hid (by simp [limP, C.len])
  have r0 := hr.1
  have r1 := hr.2
  have l1 := hf.k.2
  have l2 := hp.ka.2
  have l3 := hp.kb.2
  have l4 := hp.kd.2
  unfold maxLen at l1 l2 l3 l4
  clear hp hf hr
  go_enter Tryd.func69, Tryd.ntmps69
  go_wp2
  all_goals
    go_ret2
    exact ⟨ret2 (by rw [HL.out]) (by rw [HL.out]), by first | exact bel_drewN (below2 _ _ _) _ | exact below2 _ _ _⟩
set_option maxRecDepth 100000 in
set_option maxHeartbeats 2000000 in
theorem lim_t (p : Pg) (A B D : Option Addr) (ca cb cd : Nat) (f : Fc) (Af : Option Addr) (caf : Nat) (w : World) (hp : PgAt w p A B D ca cb cd) (hf : FvOk w f Af caf) (hr : 0 ≤ f.regs ∧ f.regs ≤ 64) :
    Calls Tryd.prog 69 #[pv p A B D ca cb cd, fv f Af caf, .int .u8 116] w fun e w' => e = .returned (limV p f 116) ∧ Below w.heap.size w w' := by
  have HL : Hid (limP p f 116 = (0, (f.code.length : Int) - 1)) := Lib.hid (by simp [limP, C.len])
  have r0 := hr.1
  have r1 := hr.2
  have l1 := hf.k.2
  have l2 := hp.ka.2
  have l3 := hp.kb.2
  have l4 := hp.kd.2
  unfold maxLen at l1 l2 l3 l4
  clear hp hf hr
  go_enter Tryd.func69, Tryd.ntmps69
  go_wp2_with fail
  go_quiet (fail)
  all_goals go_wp2
  all_goals
    go_ret2
    exact ⟨ret2 (by rw [HL.out]) (by rw [HL.out]), by first | exact bel_drewN (below2 _ _ _) _ | exact below2 _ _ _⟩
set_option maxRecDepth 100000 in
set_option maxHeartbeats 2000000 in
theorem lim_g (p : Pg) (A B D : Option Addr) (ca cb cd : Nat) (f : Fc) (Af : Option Addr) (caf : Nat) (w : World) (hp : PgAt w p A B D ca cb cd) (hf : FvOk w f Af caf) (hr : 0 ≤ f.regs ∧ f.regs ≤ 64) :
    Calls Tryd.prog 69 #[pv p A B D ca cb cd, fv f Af caf, .int .u8 103] w fun e w' => e = .returned (limV p f 103) ∧ Below w.heap.size w w' := by
  have HL : Hid (limP p f 103 = (0, (p.globals.length : Int) - 1)) := Lib.hid (by simp [limP, C.len])
  have r0 := hr.1
  have r1 := hr.2
  have l1 := hf.k.2
  have l2 := hp.ka.2
  have l3 := hp.kb.2
  have l4 := hp.kd.2
  unfold maxLen at l1 l2 l3 l4
  clear hp hf hr
  go_enter Tryd.func69, Tryd.ntmps69
  go_wp2_with fail
  go_quiet (fail)
  all_goals go_wp2
  all_goals
    go_ret2
    exact ⟨ret2 (by rw [HL.out]) (by rw [HL.out]), by first | exact bel_drewN (below2 _ _ _) _ | exact below2 _ _ _⟩
set_option maxRecDepth 100000 in
set_option maxHeartbeats 2000000 in
theorem lim_l (p : Pg) (A B D : Option Addr) (ca cb cd : Nat) (f : Fc) (Af : Option Addr) (caf : Nat) (w : World) (hp : PgAt w p A B D ca cb cd) (hf : FvOk w f Af caf) (hr : 0 ≤ f.regs ∧ f.regs ≤ 64) :
    Calls Tryd.prog 69 #[pv p A B D ca cb cd, fv f Af caf, .int .u8 108] w fun e w' => e = .returned (limV p f 108) ∧ Below w.heap.size w w' := by
  have HL : Hid (limP p f 108 = (0, (p.layouts.length : Int) - 1)) := Lib.hid (by simp [limP, C.len])
  have r0 := hr.1
  have r1 := hr.2
  have l1 := hf.k.2
  have l2 := hp.ka.2
  have l3 := hp.kb.2
  have l4 := hp.kd.2
  unfold maxLen at l1 l2 l3 l4
  clear hp hf hr
  go_enter Tryd.func69, Tryd.ntmps69
  go_wp2_with fail
  go_quiet (fail)
  all_goals go_wp2
  all_goals
    go_ret2
    exact ⟨ret2 (by rw [HL.out]) (by rw [HL.out]), by first | exact bel_drewN (below2 _ _ _) _ | exact below2 _ _ _⟩
set_option maxRecDepth 100000 in
set_option maxHeartbeats 2000000 in
theorem lim_f (p : Pg) (A B D : Option Addr) (ca cb cd : Nat) (f : Fc) (Af : Option Addr) (caf : Nat) (w : World) (hp : PgAt w p A B D ca cb cd) (hf : FvOk w f Af caf) (hr : 0 ≤ f.regs ∧ f.regs ≤ 64) :
    Calls Tryd.prog 69 #[pv p A B D ca cb cd, fv f Af caf, .int .u8 102] w fun e w' => e = .returned (limV p f 102) ∧ Below w.heap.size w w' := by
  have HL : Hid (limP p f 102 = (0, (p.funcs.length : Int) - 1)) := Lib.hid (by simp [limP, C.len])
  have r0 := hr.1
  have r1 := hr.2
  have l1 := hf.k.2
  have l2 := hp.ka.2
  have l3 := hp.kb.2
  have l4 := hp.kd.2
  unfold maxLen at l1 l2 l3 l4
  clear hp hf hr
  go_enter Tryd.func69, Tryd.ntmps69
  go_wp2_with fail
  go_quiet (fail)
  all_goals go_wp2
  all_goals
    go_ret2
    exact ⟨ret2 (by rw [HL.out]) (by rw [HL.out]), by first | exact bel_drewN (below2 _ _ _) _ | exact below2 _ _ _⟩
set_option maxRecDepth 100000 in
set_option maxHeartbeats 2000000 in
theorem lim_o (p : Pg) (A B D : Option Addr) (ca cb cd : Nat) (f : Fc) (Af : Option Addr) (caf : Nat) (w : World) (hp : PgAt w p A B D ca cb cd) (hf : FvOk w f Af caf) (hr : 0 ≤ f.regs ∧ f.regs ≤ 64) :
    Calls Tryd.prog 69 #[pv p A B D ca cb cd, fv f Af caf, .int .u8 111] w fun e w' => e = .returned (limV p f 111) ∧ Below w.heap.size w w' := by
  have HL : Hid (limP p f 111 = (0, 64)) := Lib.hid (by simp [limP, C.len])
  have r0 := hr.1
  have r1 := hr.2
  have l1 := hf.k.2
  have l2 := hp.ka.2
  have l3 := hp.kb.2
  have l4 := hp.kd.2
  unfold maxLen at l1 l2 l3 l4
  clear hp hf hr
  go_enter Tryd.func69, Tryd.ntmps69
  go_wp2
  all_goals
    go_ret2
    exact ⟨ret2 (by rw [HL.out]) (by rw [HL.out]), by first | exact bel_drewN (below2 _ _ _) _ | exact below2 _ _ _⟩
set_option maxRecDepth 100000 in
set_option maxHeartbeats 2000000 in
theorem lim_c (p : Pg) (A B D : Option Addr) (ca cb cd : Nat) (f : Fc) (Af : Option Addr) (caf : Nat) (w : World) (hp : PgAt w p A B D ca cb cd) (hf : FvOk w f Af caf) (hr : 0 ≤ f.regs ∧ f.regs ≤ 64) :
    Calls Tryd.prog 69 #[pv p A B D ca cb cd, fv f Af caf, .int .u8 99] w fun e w' => e = .returned (limV p f 99) ∧ Below w.heap.size w w' := by
  have HL : Hid (limP p f 99 = (0, 8)) := Lib.hid (by simp [limP, C.len])
  have r0 := hr.1
  have r1 := hr.2
  have l1 := hf.k.2
  have l2 := hp.ka.2
  have l3 := hp.kb.2
  have l4 := hp.kd.2
  unfold maxLen at l1 l2 l3 l4
  clear hp hf hr
  go_enter Tryd.func69, Tryd.ntmps69
  go_wp2
  all_goals
    go_ret2
    exact ⟨ret2 (by rw [HL.out]) (by rw [HL.out]), by first | exact bel_drewN (below2 _ _ _) _ | exact below2 _ _ _⟩
set_option maxRecDepth 100000 in
set_option maxHeartbeats 2000000 in
theorem lim_b (p : Pg) (A B D : Option Addr) (ca cb cd : Nat) (f : Fc) (Af : Option Addr) (caf : Nat) (w : World) (hp : PgAt w p A B D ca cb cd) (hf : FvOk w f Af caf) (hr : 0 ≤ f.regs ∧ f.regs ≤ 64) :
    Calls Tryd.prog 69 #[pv p A B D ca cb cd, fv f Af caf, .int .u8 98] w fun e w' => e = .returned (limV p f 98) ∧ Below w.heap.size w w' := by
  have HL : Hid (limP p f 98 = (0, 1)) := Lib.hid (by simp [limP, C.len])
  have r0 := hr.1
  have r1 := hr.2
  have l1 := hf.k.2
  have l2 := hp.ka.2
  have l3 := hp.kb.2
  have l4 := hp.kd.2
  unfold maxLen at l1 l2 l3 l4
  clear hp hf hr
  go_enter Tryd.func69, Tryd.ntmps69
  go_wp2
  all_goals
    go_ret2
    exact ⟨ret2 (by rw [HL.out]) (by rw [HL.out]), by first | exact bel_drewN (below2 _ _ _) _ | exact below2 _ _ _⟩
set_option maxRecDepth 100000 in
set_option maxHeartbeats 2000000 in
theorem lim_z (p : Pg) (A B D : Option Addr) (ca cb cd : Nat) (f : Fc) (Af : Option Addr) (caf : Nat) (w : World) (hp : PgAt w p A B D ca cb cd) (hf : FvOk w f Af caf) (hr : 0 ≤ f.regs ∧ f.regs ≤ 64) :
    Calls Tryd.prog 69 #[pv p A B D ca cb cd, fv f Af caf, .int .u8 45] w fun e w' => e = .returned (limV p f 45) ∧ Below w.heap.size w w' := by
  have HL : Hid (limP p f 45 = (0, 0)) := Lib.hid (by simp [limP, C.len])
  have r0 := hr.1
  have r1 := hr.2
  have l1 := hf.k.2
  have l2 := hp.ka.2
  have l3 := hp.kb.2
  have l4 := hp.kd.2
  unfold maxLen at l1 l2 l3 l4
  clear hp hf hr
  go_enter Tryd.func69, Tryd.ntmps69
  go_wp2
  all_goals
    go_ret2
    exact ⟨ret2 (by rw [HL.out]) (by rw [HL.out]), by first | exact bel_drewN (below2 _ _ _) _ | exact below2 _ _ _⟩
def okQ (q : UInt8) : Bool := [100, 115, 68, 83, 112, 97, 110, 107, 105, 116, 103, 108, 102, 111, 99, 98, 45].contains q
theorem limits_any (p : Pg) (A B D : Option Addr) (ca cb cd : Nat) (f : Fc) (Af : Option Addr) (caf : Nat) (w : World) (q : UInt8) (hq : okQ q = true) (hp : PgAt w p A B D ca cb cd) (hf : FvOk w f Af caf) (hr : 0 ≤ f.regs ∧ f.regs ≤ 64) :
    Calls Tryd.prog 69 #[pv p A B D ca cb cd, fv f Af caf, .int .u8 (q.toNat : Int)] w fun e w' => e = .returned (limV p f q) ∧ Below w.heap.size w w' := by
  simp only [okQ, List.contains_cons, List.contains_nil, Bool.or_false, Bool.or_eq_true, beq_iff_eq] at hq
  rcases hq with rfl | rfl | rfl | rfl | rfl | rfl | rfl | rfl | rfl | rfl | rfl | rfl | rfl | rfl | rfl | rfl | rfl
  · exact lim_d p A B D ca cb cd f Af caf w hp hf hr
  · exact lim_s p A B D ca cb cd f Af caf w hp hf hr
  · exact lim_dd p A B D ca cb cd f Af caf w hp hf hr
  · exact lim_ss p A B D ca cb cd f Af caf w hp hf hr
  · exact lim_p p A B D ca cb cd f Af caf w hp hf hr
  · exact lim_a p A B D ca cb cd f Af caf w hp hf hr
  · exact lim_n p A B D ca cb cd f Af caf w hp hf hr
  · exact lim_k p A B D ca cb cd f Af caf w hp hf hr
  · exact lim_i p A B D ca cb cd f Af caf w hp hf hr
  · exact lim_t p A B D ca cb cd f Af caf w hp hf hr
  · exact lim_g p A B D ca cb cd f Af caf w hp hf hr
  · exact lim_l p A B D ca cb cd f Af caf w hp hf hr
  · exact lim_f p A B D ca cb cd f Af caf w hp hf hr
  · exact lim_o p A B D ca cb cd f Af caf w hp hf hr
  · exact lim_c p A B D ca cb cd f Af caf w hp hf hr
  · exact lim_b p A B D ca cb cd f Af caf w hp hf hr
  · exact lim_z p A B D ca cb cd f Af caf w hp hf hr
end Go.Proofs.YtekfhgldebhigaaDoor
