/-
  What is printed of permitted files: equal exactly if the files are, and it scans.
-/
import Derived.Test.YticbcnhbpbaocaaGreatDoorZM
import Derived.Test.YticbcnhbpbaocaaGreatDoorQI
namespace Go.Proofs.YticbcnhbpbaocaaGreatDoor.Z
open Go.RowKit T T.Fo
set_option linter.all false
theorem nm_nz : (nm : ByteArray → Bool) = nz := funext fun s => M.nmS_eq _
theorem file_good {h : Hd} {F : Fo} (hv : validT nm h F = true) (hn : numIx h) (hF : F.AllH numIx) : F.All Gz ∧ (F.All fun h k => declT h k = true) ∧ h.kind = 1 ∧ h.text.data.toList = [] := by
  unfold validT at hv
  rw [permT_dep, Bool.and_eq_true, Bool.and_eq_true] at hv
  obtain ⟨hk, ho, hd⟩ := hv
  unfold okT at ho
  simp only [Bool.and_eq_true] at ho
  obtain ⟨⟨⟨p1, p2⟩, p3⟩, p4⟩ := ho
  have hs := sh_kids p4 hF
  rw [nm_nz] at p4 p1
  have hk1 : h.kind = 1 := by simpa using hk
  obtain ⟨kd, t, nu, p, tk, tn, r, u⟩ := h
  obtain rfl : kd = 1 := hk1
  refine ⟨kids_gz p4 hs, ?_, rfl, ?_⟩
  · simp [childrenFit, places] at p3
    exact (fits_rep p3).2
  · simp [textFits, namedK] at p1
    simp [p1]
theorem bare_file {h h' : Hd} (e : h.kind = 1) (e' : h'.kind = 1) (t : h.text.data.toList = []) (t' : h'.text.data.toList = []) : bare h = bare h' := by
  obtain ⟨kd, x, nu, p, tk, tn, r, u⟩ := h
  obtain ⟨kd', x', nu', p', tk', tn', r', u'⟩ := h'
  obtain rfl : kd = 1 := e
  obtain rfl : kd' = 1 := e'
  obtain rfl : x = x' := Go.WideShapes.bytes_inj (t.trans t'.symm)
  rfl
/-- Two permitted files are equal exactly if what is printed of them is. -/
theorem eq_text {h h' : Hd} {F F' : Fo} (hv : validT nm h F = true) (hn : numIx h) (hF : F.AllH numIx) (hv' : validT nm h' F' = true) (hn' : numIx h') (hF' : F'.AllH numIx) : decide (printT nm h F = printT nm h' F') = eqT h F h' F' := by
  obtain ⟨g, d, e, t⟩ := file_good hv hn hF
  obtain ⟨g', d', e', t'⟩ := file_good hv' hn' hF'
  rw [show printT nm h F = fileS F from if_pos hv, show printT nm h' F' = fileS F' from if_pos hv']
  unfold eqT
  rw [Bool.eq_iff_iff, decide_eq_true_iff, decide_eq_true_iff, text_iff g d g' d']
  exact ⟨fun x => ⟨bare_file e e' t t', x⟩, fun x => x.2⟩
/-- It scans, or it is too long. -/
theorem scan_text {h : Hd} {F : Fo} (hv : validT nm h F = true) (hn : numIx h) (hF : F.AllH numIx) : M.scanE (printT nm h F) = 0 ∨ 20000 < (printT nm h F).length := by
  obtain ⟨g, d, e, t⟩ := file_good hv hn hF
  rw [show printT nm h F = fileS F from if_pos hv]
  by_cases hl : (fileS F).length ≤ 20000
  · exact .inl (file_scan g d hl)
  · exact .inr (by omega)
theorem scan_long {l : List UInt8} (h : 20000 < l.length) : M.scanE l = 3 := by
  unfold M.scanE M.scanR
  rw [if_pos h]
end Go.Proofs.YticbcnhbpbaocaaGreatDoor.Z
