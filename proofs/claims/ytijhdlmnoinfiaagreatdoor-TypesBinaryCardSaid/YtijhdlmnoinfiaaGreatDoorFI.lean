/-
  The walk of the program's Binary.
-/
import Derived.Test.YtijhdlmnoinfiaaGreatDoorFH
set_option linter.all false
namespace Go.Proofs.YtijhdlmnoinfiaaGreatDoor
open Go.RowKit T T.Fo Ty
theorem ybin_any (op : ByteArray) (k : Int) (s : ByteArray) (k' : Int) (s' : ByteArray) (w : World) (hm : s.size ≤ maxLen) (hm' : s'.size ≤ maxLen) (hG : Glob w) :
    Calls Tryz.prog 27 #[.string op, tyv k s, tyv k' s'] w fun e w' => e = .returned (.tuple #[tyv (binK op k s k' s') ⟨#[]⟩, .bool (decide (binK op k s k' s' ≠ 0))]) ∧ Below w.heap.size w w' := by
  by_cases h43 : op.toList = [43]
  · have t : (⟨#[43]⟩ : ByteArray).toList = [43] := by rw [ByteArray.toList_eq]
    obtain rfl : op = ⟨#[43]⟩ := ba_ext (h43.trans t.symm)
    have e : opc ⟨#[43]⟩ = 1 := by unfold opc; rw [t]; decide
    unfold binK; rw [e]
    exact ybin_43 k s k' s' w hm hm' hG
  by_cases h45 : op.toList = [45]
  · have t : (⟨#[45]⟩ : ByteArray).toList = [45] := by rw [ByteArray.toList_eq]
    obtain rfl : op = ⟨#[45]⟩ := ba_ext (h45.trans t.symm)
    have e : opc ⟨#[45]⟩ = 1 := by unfold opc; rw [t]; decide
    unfold binK; rw [e]
    exact ybin_45 k s k' s' w hm hm' hG
  by_cases h42 : op.toList = [42]
  · have t : (⟨#[42]⟩ : ByteArray).toList = [42] := by rw [ByteArray.toList_eq]
    obtain rfl : op = ⟨#[42]⟩ := ba_ext (h42.trans t.symm)
    have e : opc ⟨#[42]⟩ = 1 := by unfold opc; rw [t]; decide
    unfold binK; rw [e]
    exact ybin_42 k s k' s' w hm hm' hG
  by_cases h47 : op.toList = [47]
  · have t : (⟨#[47]⟩ : ByteArray).toList = [47] := by rw [ByteArray.toList_eq]
    obtain rfl : op = ⟨#[47]⟩ := ba_ext (h47.trans t.symm)
    have e : opc ⟨#[47]⟩ = 1 := by unfold opc; rw [t]; decide
    unfold binK; rw [e]
    exact ybin_47 k s k' s' w hm hm' hG
  by_cases h37 : op.toList = [37]
  · have t : (⟨#[37]⟩ : ByteArray).toList = [37] := by rw [ByteArray.toList_eq]
    obtain rfl : op = ⟨#[37]⟩ := ba_ext (h37.trans t.symm)
    have e : opc ⟨#[37]⟩ = 1 := by unfold opc; rw [t]; decide
    unfold binK; rw [e]
    exact ybin_37 k s k' s' w hm hm' hG
  by_cases h60 : op.toList = [60]
  · have t : (⟨#[60]⟩ : ByteArray).toList = [60] := by rw [ByteArray.toList_eq]
    obtain rfl : op = ⟨#[60]⟩ := ba_ext (h60.trans t.symm)
    have e : opc ⟨#[60]⟩ = 2 := by unfold opc; rw [t]; decide
    unfold binK; rw [e]
    exact ybin_60 k s k' s' w hm hm' hG
  by_cases h6061 : op.toList = [60, 61]
  · have t : (⟨#[60, 61]⟩ : ByteArray).toList = [60, 61] := by rw [ByteArray.toList_eq]
    obtain rfl : op = ⟨#[60, 61]⟩ := ba_ext (h6061.trans t.symm)
    have e : opc ⟨#[60, 61]⟩ = 2 := by unfold opc; rw [t]; decide
    unfold binK; rw [e]
    exact ybin_6061 k s k' s' w hm hm' hG
  by_cases h62 : op.toList = [62]
  · have t : (⟨#[62]⟩ : ByteArray).toList = [62] := by rw [ByteArray.toList_eq]
    obtain rfl : op = ⟨#[62]⟩ := ba_ext (h62.trans t.symm)
    have e : opc ⟨#[62]⟩ = 2 := by unfold opc; rw [t]; decide
    unfold binK; rw [e]
    exact ybin_62 k s k' s' w hm hm' hG
  by_cases h6261 : op.toList = [62, 61]
  · have t : (⟨#[62, 61]⟩ : ByteArray).toList = [62, 61] := by rw [ByteArray.toList_eq]
    obtain rfl : op = ⟨#[62, 61]⟩ := ba_ext (h6261.trans t.symm)
    have e : opc ⟨#[62, 61]⟩ = 2 := by unfold opc; rw [t]; decide
    unfold binK; rw [e]
    exact ybin_6261 k s k' s' w hm hm' hG
  by_cases h6161 : op.toList = [61, 61]
  · have t : (⟨#[61, 61]⟩ : ByteArray).toList = [61, 61] := by rw [ByteArray.toList_eq]
    obtain rfl : op = ⟨#[61, 61]⟩ := ba_ext (h6161.trans t.symm)
    have e : opc ⟨#[61, 61]⟩ = 3 := by unfold opc; rw [t]; decide
    unfold binK; rw [e]
    exact ybin_6161 k s k' s' w hm hm' hG
  by_cases h3361 : op.toList = [33, 61]
  · have t : (⟨#[33, 61]⟩ : ByteArray).toList = [33, 61] := by rw [ByteArray.toList_eq]
    obtain rfl : op = ⟨#[33, 61]⟩ := ba_ext (h3361.trans t.symm)
    have e : opc ⟨#[33, 61]⟩ = 3 := by unfold opc; rw [t]; decide
    unfold binK; rw [e]
    exact ybin_3361 k s k' s' w hm hm' hG
  by_cases h3838 : op.toList = [38, 38]
  · have t : (⟨#[38, 38]⟩ : ByteArray).toList = [38, 38] := by rw [ByteArray.toList_eq]
    obtain rfl : op = ⟨#[38, 38]⟩ := ba_ext (h3838.trans t.symm)
    have e : opc ⟨#[38, 38]⟩ = 4 := by unfold opc; rw [t]; decide
    unfold binK; rw [e]
    exact ybin_3838 k s k' s' w hm hm' hG
  by_cases h124124 : op.toList = [124, 124]
  · have t : (⟨#[124, 124]⟩ : ByteArray).toList = [124, 124] := by rw [ByteArray.toList_eq]
    obtain rfl : op = ⟨#[124, 124]⟩ := ba_ext (h124124.trans t.symm)
    have e : opc ⟨#[124, 124]⟩ = 4 := by unfold opc; rw [t]; decide
    unfold binK; rw [e]
    exact ybin_124124 k s k' s' w hm hm' hG
  have e : opc op = 0 := by unfold opc; simp only [h43, h45, h42, h47, h37, h60, h6061, h62, h6261, h6161, h3361, h3838, h124124, if_false]
  unfold binK; rw [e]
  exact ybin_no op k s k' s' w (by simpa using h43) (by simpa using h45) (by simpa using h42) (by simpa using h47) (by simpa using h37) (by simpa using h60) (by simpa using h6061) (by simpa using h62) (by simpa using h6261) (by simpa using h6161) (by simpa using h3361) (by simpa using h3838) (by simpa using h124124)
end Go.Proofs.YtijhdlmnoinfiaaGreatDoor
