/-
  The plain mathematics of FsNames: what is read behind a rename and behind an append. No program.
-/
import Derived.Test.YtomgbanpldecfaaFsSureMath
import Derived.Test.YtomgbanpldecfaaFsDir
namespace Go.Proofs.Ytomgbanpldecfaa
open Go.RowKit Go.WideShapes
set_option linter.unusedVariables false
namespace Fs
theorem burn_ok {m : Dsk} (h : (burn m).2 = 0) : (burn m).1.files = m.files ∧ (burn m).1.names = m.names := ⟨(burn_files m).1, (burn_files m).2.1⟩
theorem rename_reads {m : Dsk} (h : Good m) {a b : Nm} (e : (rename m a b).2 = 0) : ∃ y, read m a = (y, 0) ∧ read (rename m a b).1 b = (y, 0) ∧ ∃ z c, read (rename m a b).1 a = (z, c) ∧ (c == 0) = (a == b) := by
  unfold rename at e ⊢
  by_cases h1 : (dget m.names a).isSome = false
  · rw [if_pos h1] at e; cases e
  rw [if_neg h1] at e ⊢
  by_cases h2 : may b = false
  · rw [if_pos h2] at e; cases e
  rw [if_neg h2] at e ⊢
  unfold change at e ⊢
  by_cases h3 : (burn m).2 = 0
  · rw [if_pos h3] at e ⊢
    obtain ⟨f1, f2⟩ := burn_ok h3
    rw [Bool.not_eq_false, Option.isSome_iff_exists] at h1
    obtain ⟨i, hi⟩ := h1
    rw [Bool.not_eq_false] at h2
    have hane : a ≠ [] := has_ne h (by rw [hi]; rfl)
    have hap : apply ⟨a, b, none⟩ m.names = dput (ddel m.names a) b i := apply_mv hane (may_ne h2) hi
    have hr := rise_del h.dir.rise a
    refine ⟨(fileAt m i).bytes, ?_, ?_, ?_⟩
    · unfold read; rw [hi]
    · unfold read
      simp only
      rw [hap, dget_put_same hr]
      simp only [fileAt, f1]
    · by_cases hab : a = b
      · subst hab
        refine ⟨(fileAt m i).bytes, 0, ?_, by simp⟩
        unfold read
        simp only
        rw [hap, dget_put_same hr]
        simp only [fileAt, f1]
      · refine ⟨[], 10, ?_, ?_⟩
        · unfold read
          simp only
          rw [hap, dget_put_other hr hab, dget_del_same]
        · have : (a == b) = false := by simpa using hab
          rw [this]; rfl
  · rw [if_neg h3] at e; exact absurd e h3
theorem append_reads {m : Dsk} (h : Good m) {a b : Nm} (e : (append m a b).2 = 0) : ∃ y, read m a = (y, 0) ∧ read (append m a b).1 a = (y ++ b, 0) := by
  unfold append at e ⊢
  cases hd : dget m.names a with
  | none => rw [hd] at e; cases e
  | some i =>
    rw [hd] at e
    simp only at e ⊢
    by_cases h1 : m.quota < size m + b.length
    · rw [if_pos h1] at e; cases e
    rw [if_neg h1] at e ⊢
    by_cases h3 : (burn m).2 = 0
    · rw [if_pos h3] at e ⊢
      obtain ⟨f1, f2⟩ := burn_ok h3
      have hi := (h.dir.each _ (dget_mem hd)).2
      refine ⟨(fileAt m i).bytes, ?_, ?_⟩
      · unfold read; rw [hd]
      · unfold read
        simp only
        rw [f2, hd]
        simp only
        have := mod_same (g := grow b) (fileAt_of hi)
        rw [fileAt_some (f := grow b (fileAt m i)) (by exact this)]
        rfl
    · rw [if_neg h3] at e; exact absurd e h3
theorem read_len {m : Dsk} (h : Good m) (s : Nm) : (read m s).1.length ≤ 1099511627776 := by
  unfold read
  split
  · simp
  · exact fileAt_len h _
theorem list_rise {m : Dsk} (h : Good m) {j : Nat} {x y : Nm} (hx : (list m)[j]? = some x) (hy : (list m)[j + 1]? = some y) : bytesBefore x y = true := by
  unfold list at hx hy
  rw [List.getElem?_map] at hx hy
  obtain ⟨p, hp, rfl⟩ := Option.map_eq_some_iff.1 hx
  obtain ⟨q, hq, rfl⟩ := Option.map_eq_some_iff.1 hy
  obtain ⟨h1, e1⟩ := List.getElem?_eq_some_iff.1 hp
  obtain ⟨h2, e2⟩ := List.getElem?_eq_some_iff.1 hq
  have := List.pairwise_iff_getElem.1 h.dir.rise j (j + 1) h1 h2 (by omega)
  rw [e1, e2] at this
  exact this
end Fs
end Go.Proofs.Ytomgbanpldecfaa
