/-
  The plain mathematics of FsSure: what is left of a file that was synced, and whose name was. No program.
-/
import Derived.Test.YtomgbanpldecfaaFsLawMath
namespace Go.Proofs.Ytomgbanpldecfaa
open Go.RowKit Go.WideShapes
set_option linter.unusedVariables false
namespace Fs
theorem create_ok {m : Dsk} (h : Good m) (ho : Off m) {s : Nm} (hc : (create m s).2 = 0) :
    may s = true ∧ (create m s).1 = { m with files := m.files ++ [noFile], names := dput m.names s m.files.length, pend := m.pend ++ [⟨[], s, some m.files.length⟩] } := by
  unfold create at hc ⊢
  by_cases h1 : may s = false
  · rw [if_pos h1] at hc; cases hc
  · rw [if_neg h1] at hc ⊢
    by_cases h2 : (dget m.names s).isSome = true
    · rw [if_pos h2] at hc; cases hc
    · rw [if_neg h2] at hc ⊢
      by_cases h3 : 60 ≤ m.names.length
      · rw [if_pos h3] at hc; cases hc
      · rw [if_neg h3]
        rw [Bool.not_eq_false] at h1
        rw [change_off (m := { m with files := m.files ++ [noFile] }) (off_of ho rfl rfl)]
        refine ⟨h1, ?_⟩
        simp only
        rw [apply_mk (n := 0) rfl (may_ne h1) rfl]
theorem append_ok {m : Dsk} (ho : Off m) {s b : Nm} {i : Nat} (hg : dget m.names s = some i) (hq : (size m : Int) + b.length ≤ m.quota) : append m s b = ({ m with files := m.files.modify i (grow b) }, 0) := by
  unfold append
  rw [hg]
  simp only
  rw [if_neg (by omega), burn_off' ho]
  simp
theorem sync_ok {m : Dsk} (ho : Off m) {s : Nm} {i : Nat} (hg : dget m.names s = some i) : sync m s = ({ m with files := m.files.modify i mkSure }, 0) := by
  unfold sync
  rw [hg]
  simp only
  rw [burn_off' ho]
  simp
theorem fileAt_mod {m : Dsk} {i : Nat} {g : File → File} (hi : i < m.files.length) : fileAt { m with files := m.files.modify i g } i = g (fileAt m i) := by
  have h := fileAt_of hi
  exact fileAt_some (mod_same h)
theorem sure_tail {m : Dsk} (h : Good m) (ho : Off m) (hq : m.quota = 1048576) (ht : tot m.files ≤ 100000) (hp : m.pend.length ≤ 100) {s : Nm} (hc : (create m s).2 = 0) (b more : Nm) (hb : b.length ≤ 1000) (hm : more.length ≤ 1000) (n : Int) (keep : List Int) :
    ∃ m1 m2 m3 m4 m5, create m s = (m1, 0) ∧ append m1 s b = (m2, 0) ∧ sync m2 s = (m3, 0) ∧ syncDir m3 = (m4, 0) ∧ append m4 s more = (m5, 0) ∧ tot m1.files + b.length ≤ 1099511627776 ∧ tot m4.files + more.length ≤ 1099511627776 ∧
      ∃ j, j ≤ more.length ∧ read (crash m5 n keep) s = (b ++ more.take j, 0) := by
  obtain ⟨hms, e1⟩ := create_ok h ho hc
  have g1 : Good (create m s).1 := h.create s (by omega)
  obtain ⟨t1, _, q1⟩ := create_tot m s
  have o1 := create_off ho s
  have ec : create m s = ((create m s).1, 0) := by rw [← hc]
  generalize hm1 : (create m s).1 = m1 at *
  have hget1 : dget m1.names s = some m.files.length := by rw [e1]; exact dget_put_same h.dir.rise s _
  have hi1 : m.files.length < m1.files.length := by rw [e1]; simp
  have hf1 : fileAt m1 m.files.length = noFile := by rw [e1]; unfold fileAt; simp
  have e2 := append_ok (b := b) o1 hget1 (by have := size_tot g1; omega)
  have g2 : Good { m1 with files := m1.files.modify m.files.length (grow b) } := by have := g1.append s b (by omega); rw [e2] at this; exact this
  have hf2 : fileAt { m1 with files := m1.files.modify m.files.length (grow b) } m.files.length = grow b noFile := by rw [fileAt_mod hi1, hf1]
  have t2 : tot (m1.files.modify m.files.length (grow b)) ≤ tot m1.files + b.length := tot_modify _ _ _ _ (fun f => by simp [grow])
  have l2 : m.files.length < (m1.files.modify m.files.length (grow b)).length := by rw [modify_len]; exact hi1
  generalize hm2 : ({ m1 with files := m1.files.modify m.files.length (grow b) } : Dsk) = m2 at *
  have o2 : Off m2 := by rw [← hm2]; exact off_of o1 rfl rfl
  have hget2 : dget m2.names s = some m.files.length := by rw [← hm2]; exact hget1
  have q2 : m2.quota = m1.quota := by rw [← hm2]
  have l2' : m.files.length < m2.files.length := by rw [← hm2]; exact l2
  have t2' : tot m2.files ≤ tot m1.files + b.length := by rw [← hm2]; exact t2
  have e3 := sync_ok o2 hget2
  have g3 : Good { m2 with files := m2.files.modify m.files.length mkSure } := by have := g2.sync s; rw [e3] at this; exact this
  have hf3 : fileAt { m2 with files := m2.files.modify m.files.length mkSure } m.files.length = mkSure (grow b noFile) := by rw [fileAt_mod l2', hf2]
  have t3 : tot (m2.files.modify m.files.length mkSure) ≤ tot m2.files + 0 := tot_modify _ _ _ _ (fun f => by simp [mkSure])
  have l3 : m.files.length < (m2.files.modify m.files.length mkSure).length := by rw [modify_len]; exact l2'
  generalize hm3 : ({ m2 with files := m2.files.modify m.files.length mkSure } : Dsk) = m3 at *
  have o3 : Off m3 := by rw [← hm3]; exact off_of o2 rfl rfl
  have hget3 : dget m3.names s = some m.files.length := by rw [← hm3]; exact hget2
  have e4 := syncDir_off o3
  have g4 : Good { m3 with sure := m3.names, pend := [] } := by have := g3.syncDir; rw [e4] at this; exact this
  have o4 : Off { m3 with sure := m3.names, pend := [] } := off_of o3 rfl rfl
  have q4 : m3.quota = m2.quota := by rw [← hm3]
  have t4 : tot m3.files ≤ tot m2.files := by rw [← hm3]; exact t3
  have l4 : m.files.length < m3.files.length := by rw [← hm3]; exact l3
  have e5 := append_ok (m := { m3 with sure := m3.names, pend := [] }) (s := s) (b := more) o4 hget3 (by have := size_tot g4; simp only at this ⊢; omega)
  have g5 := g4.append s more (by simp only; omega)
  rw [e5] at g5
  simp only at g5
  have hf5 : fileAt { m3 with sure := m3.names, pend := [], files := m3.files.modify m.files.length (grow more) } m.files.length = grow more (mkSure (grow b noFile)) := by
    have := fileAt_mod (m := { m3 with sure := m3.names, pend := [] }) (i := m.files.length) (g := grow more) l4
    rw [this]
    congr 1
  refine ⟨m1, m2, m3, _, _, ec, e2, e3, e4, e5, by omega, by simp only; omega, ?_⟩
  have hkt : keptOf { m3 with sure := m3.names, pend := [], files := m3.files.modify m.files.length (grow more) } n = m3.names := by unfold keptOf; simp [applyAll]
  have l5 : m.files.length < (m3.files.modify m.files.length (grow more)).length := by rw [modify_len]; exact l4
  obtain ⟨f, h1, h2, h3, h4, h5⟩ := cutsN_get m3.names keep (m3.files.modify m.files.length (grow more)) m3.names.length m.files.length (grow more (mkSure (grow b noFile))) (by
    have := fileAt_of (m := { m3 with sure := m3.names, pend := [], files := m3.files.modify m.files.length (grow more) }) l5
    rw [hf5] at this; exact this) (by simp [grow, mkSure, noFile])
  simp only [grow, mkSure, noFile, List.nil_append] at h2 h3 h5
  refine ⟨f.bytes.length - b.length, by simp at h5; omega, ?_⟩
  unfold read crash
  rw [hkt]
  simp only
  rw [hget3]
  simp only
  have hfa : fileAt ⟨cutsN m3.names keep (m3.files.modify m.files.length (grow more)) m3.names.length, m3.names, m3.names, [], m3.quota, -1, false⟩ m.files.length = f := fileAt_some h1
  rw [hfa]
  congr 1
  have hl : b.length ≤ f.bytes.length := by omega
  refine h2.trans ?_
  rw [List.take_append, List.take_of_length_le hl]
end Fs
end Go.Proofs.Ytomgbanpldecfaa
