/-
  The plain mathematics of the statements of layer 3: what an act leaves, what a dead disk does, what cuts leave of a file. No program.
-/
import Derived.Test.YtlkcdcpdccmodaaGreatDoorFsMath
namespace Go.Proofs.YtlkcdcpdccmodaaGreatDoor
open Go.RowKit Go.WideShapes
set_option linter.unusedVariables false
set_option maxRecDepth 100000
namespace Fs
/-! how many bytes there are -/
theorem sum_ids (g : Nat → Nat) : ∀ (n : Nat) (L : List Nat), L.Nodup → (∀ i ∈ L, i < n) → (L.map g).sum ≤ ((List.range n).map g).sum
  | 0, L, _, h => by
    cases L with
    | nil => simp
    | cons a r => exact absurd (h a List.mem_cons_self) (by omega)
  | n + 1, L, hn, h => by
    rw [List.range_succ, List.map_append, List.sum_append]
    by_cases hm : n ∈ L
    · have hp := List.perm_cons_erase hm
      have e : (L.map g).sum = g n + ((L.erase n).map g).sum := by
        have := (hp.map g).sum_nat
        simpa using this
      have ih := sum_ids g n (L.erase n) (hn.erase n) (fun i hi => by
        have h1 := h i (List.mem_of_mem_erase hi)
        have h2 : i ≠ n := fun e => by subst e; exact (hn.not_mem_erase) hi
        omega)
      simp; omega
    · have ih := sum_ids g n L hn (fun i hi => by
        have h1 := h i hi
        have h2 : i ≠ n := fun e => hm (e ▸ hi)
        omega)
      simp; omega
theorem range_tot (fs : List File) : ((List.range fs.length).map (fun i => ((fs[i]?).getD noFile).bytes.length)).sum = tot fs := by
  unfold tot
  congr 1
  apply List.ext_getElem
  · simp
  · intro i h1 h2
    simp at h1
    simp [h1]
theorem size_tot {m : Dsk} (h : Good m) : size m ≤ tot m.files := by
  have hd := h.dir
  have hn : (m.names.map (·.2)).Nodup := by
    have h1 : m.names.Pairwise (fun p q => p.2 ≠ q.2) := (rise_ne hd.rise).imp_of_mem (fun {p q} hp hq hne e => hne (by rw [hd.inj p hp q hq e]))
    exact List.pairwise_map.2 h1
  have := sum_ids (fun i => (fileAt m i).bytes.length) m.files.length (m.names.map (·.2)) hn (fun i hi => by
    obtain ⟨p, hp, rfl⟩ := List.mem_map.1 hi
    exact (hd.each p hp).2)
  rw [List.map_map] at this
  have e := range_tot m.files
  unfold size
  exact Nat.le_trans this (Nat.le_of_eq e)
theorem mod_same {fs : List File} {i : Nat} {g : File → File} {f : File} (h : fs[i]? = some f) : (fs.modify i g)[i]? = some (g f) := by rw [List.getElem?_modify, h]; simp
theorem mod_other {fs : List File} {i j : Nat} {g : File → File} (h : i ≠ j) : (fs.modify i g)[j]? = fs[j]? := by rw [List.getElem?_modify]; cases fs[j]? <;> simp [h]
/-! what cuts leave -/
theorem cutsN_get (kept : Dir) (keep : List Int) (fs : List File) : ∀ (k i : Nat) (f0 : File), fs[i]? = some f0 → f0.sure ≤ f0.bytes.length → ∃ f, (cutsN kept keep fs k)[i]? = some f ∧ f.bytes = f0.bytes.take f.bytes.length ∧ f0.sure ≤ f.sure ∧ f.sure ≤ f.bytes.length ∧ f.bytes.length ≤ f0.bytes.length
  | 0, i, f0, h, hs => ⟨f0, h, by simp, Nat.le_refl _, hs, Nat.le_refl _⟩
  | k + 1, i, f0, h, hs => by
    obtain ⟨f, h1, h2, h3, h4, h5⟩ := cutsN_get kept keep fs k i f0 h hs
    unfold cutsN
    split
    · exact ⟨f, h1, h2, h3, h4, h5⟩
    · rename_i p _
      by_cases e : p.2 = i
      · rw [e, mod_same h1]
        have hc := cut_ok ((keep[k]?).getD 0) f h4
        refine ⟨cut ((keep[k]?).getD 0) f, rfl, ?_, by omega, by omega, by omega⟩
        rw [← hc.1, cut_pre, h2, List.take_take]
        congr 1
        omega
      · rw [mod_other e]
        exact ⟨f, h1, h2, h3, h4, h5⟩
/-- each file that was cut is sure -/
theorem cutsN_done (kept : Dir) (keep : List Int) (fs : List File) (hs : ∀ f ∈ fs, f.sure ≤ f.bytes.length) : ∀ (k j : Nat) (p : Nm × Nat), j < k → kept[j]? = some p → ∀ f, (cutsN kept keep fs k)[p.2]? = some f → f.sure = f.bytes.length
  | 0, j, p, hj, _ => by omega
  | k + 1, j, p, hj, hp => by
    intro f hf
    unfold cutsN at hf
    split at hf
    · rename_i hk
      refine cutsN_done kept keep fs hs k j p ?_ hp f hf
      rcases Nat.lt_or_ge j k with h | h
      · exact h
      · have : j = k := by omega
        rw [this, hk] at hp; cases hp
    · rename_i q hk
      by_cases e1 : q.2 = p.2
      · cases e : (cutsN kept keep fs k)[p.2]? with
        | none => rw [List.getElem?_modify, e] at hf; simp at hf
        | some f0 =>
          have hf0 := cutsN_sure kept keep fs hs k f0 (List.mem_of_getElem? e)
          rw [e1, mod_same e] at hf
          simp at hf
          rw [← hf]
          exact (cut_ok _ f0 hf0).1
      · rw [mod_other e1] at hf
        refine cutsN_done kept keep fs hs k j p ?_ hp f hf
        by_cases hh : j < k
        · exact hh
        · have : j = k := by omega
          rw [this, hk] at hp; cases hp; exact absurd rfl e1
/-- cuts that keep all leave all bytes -/
theorem cutsN_all (kept : Dir) (keep : List Int) (fs : List File) (hs : ∀ f ∈ fs, f.sure ≤ f.bytes.length) (hk : ∀ (j : Nat) (p : Nm × Nat) (f : File), kept[j]? = some p → fs[p.2]? = some f → (f.bytes.length : Int) - f.sure ≤ (keep[j]?).getD 0) :
    ∀ (k i : Nat) (f0 : File), fs[i]? = some f0 → ∃ f, (cutsN kept keep fs k)[i]? = some f ∧ f.bytes = f0.bytes ∧ f0.sure ≤ f.sure ∧ f.sure ≤ f.bytes.length
  | 0, i, f0, h => ⟨f0, h, rfl, Nat.le_refl _, hs f0 (List.mem_of_getElem? h)⟩
  | k + 1, i, f0, h => by
    obtain ⟨f, h1, h2, h3, h4⟩ := cutsN_all kept keep fs hs hk k i f0 h
    unfold cutsN
    split
    · exact ⟨f, h1, h2, h3, h4⟩
    · rename_i p hp
      by_cases e : p.2 = i
      · rw [e, mod_same h1]
        have hc := cut_ok ((keep[k]?).getD 0) f h4
        have hw := hk k p f0 hp (by rw [e]; exact h)
        have hfull : (cut ((keep[k]?).getD 0) f).sure = f.bytes.length := by
          unfold cut within
          rw [h2] at h4 ⊢
          simp only
          omega
        refine ⟨cut ((keep[k]?).getD 0) f, rfl, ?_, by omega, by omega⟩
        rw [cut_pre, hfull, List.take_length, h2]
      · rw [mod_other e]
        exact ⟨f, h1, h2, h3, h4⟩
theorem fileAt_of {m : Dsk} {i : Nat} (h : i < m.files.length) : m.files[i]? = some (fileAt m i) := by
  unfold fileAt; rw [List.getElem?_eq_getElem h]; rfl
theorem fileAt_some {m : Dsk} {i : Nat} {f : File} (h : m.files[i]? = some f) : fileAt m i = f := by unfold fileAt; rw [h]; rfl
/-- behind a crash all that is there is sure -/
theorem crash_sure {m : Dsk} (h : Good m) (n : Int) (keep : List Int) : ∀ p ∈ (crash m n keep).names, (fileAt (crash m n keep) p.2).sure = (fileAt (crash m n keep) p.2).bytes.length := by
  intro p hp
  have hp' : p ∈ keptOf m n := hp
  obtain ⟨j, hj, e⟩ := List.getElem_of_mem hp'
  have hi : p.2 < (crash m n keep).files.length := by
    show p.2 < (cutsN (keptOf m n) keep m.files (keptOf m n).length).length
    rw [cutsN_len]; exact ((keptOk h n).each p hp').2
  exact cutsN_done (keptOf m n) keep m.files h.files (keptOf m n).length j p hj (by rw [List.getElem?_eq_getElem hj, e]) _ (fileAt_of hi)
theorem sum_zero {α : Type} (f : α → Nat) : ∀ l : List α, (∀ x ∈ l, f x = 0) → (l.map f).sum = 0
  | [], _ => rfl
  | x :: r, h => by simp [h x List.mem_cons_self]; exact sum_zero f r (fun y hy => h y (List.mem_cons_of_mem _ hy))
theorem crash_loose {m : Dsk} (h : Good m) (n : Int) (keep : List Int) : loose (crash m n keep) = 0 :=
  sum_zero _ _ (fun p hp => by have := crash_sure h n keep p hp; unfold looseF; omega)
/-- what a crash leaves of a disk of which all that has a name is sure, and nothing is pending: all -/
theorem crash_quiet {m : Dsk} (h : Good m) (hp : m.pend = []) (hs : ∀ p ∈ m.names, (fileAt m p.2).sure = (fileAt m p.2).bytes.length) (n : Int) (keep : List Int) :
    (crash m n keep).names = m.names ∧ ∀ p ∈ m.names, (fileAt (crash m n keep) p.2).bytes = (fileAt m p.2).bytes := by
  have hk : keptOf m n = m.names := by rw [h.names]; unfold keptOf; rw [hp]; simp
  refine ⟨hk, fun p hp' => ?_⟩
  have hi : p.2 < m.files.length := (h.dir.each p hp').2
  obtain ⟨f, h1, h2, h3, h4, h5⟩ := cutsN_get (keptOf m n) keep m.files (keptOf m n).length p.2 (fileAt m p.2) (fileAt_of hi) (fileAt_sure h p.2)
  rw [fileAt_some (m := crash m n keep) h1, h2]
  have := hs p hp'
  rw [List.take_of_length_le (by omega)]
/-- a crash that keeps all -/
theorem crash_all {m : Dsk} (h : Good m) (n : Int) (keep : List Int) (hn : (m.pend.length : Int) ≤ n) (hk : ∀ (j : Nat), j < m.names.length → ∀ i, ((fileAt m i).bytes.length : Int) ≤ (keep[j]?).getD 0) :
    (crash m n keep).names = m.names ∧ (crash m n keep).pend = [] ∧ (∀ p ∈ m.names, (fileAt (crash m n keep) p.2).bytes = (fileAt m p.2).bytes) := by
  have hw : (within n m.pend.length).toNat = m.pend.length := by unfold within; omega
  have hkt : keptOf m n = m.names := by rw [h.names]; unfold keptOf; rw [hw, List.take_length]
  refine ⟨hkt, rfl, fun p hp => ?_⟩
  have hi : p.2 < m.files.length := (h.dir.each p hp).2
  obtain ⟨f, h1, h2, _⟩ := cutsN_all (keptOf m n) keep m.files h.files (fun j q f hj hf => by
    have hl : j < m.names.length := by rw [← hkt]; exact (List.getElem?_eq_some_iff.1 hj).1
    have := hk j hl q.2
    rw [fileAt_some hf] at this
    omega) (keptOf m n).length p.2 (fileAt m p.2) (fileAt_of hi)
  rw [fileAt_some (m := crash m n keep) h1, h2]
/-! what each method changes -/
theorem change_tot (m : Dsk) (c : Chg) : (change m c).1.files = m.files ∧ (change m c).1.pend.length ≤ m.pend.length + 1 ∧ (change m c).1.quota = m.quota := by
  obtain ⟨e1, e2, e3, e4, e5⟩ := burn_files m
  unfold change
  split
  · exact ⟨e1, by simp, e5⟩
  · exact ⟨e1, by rw [e4]; omega, e5⟩
/-- a disk whose fuse is off -/
structure Off (m : Dsk) : Prop where
  dead : m.dead = false
  fuse : m.fuse = -1
theorem burn_off' {m : Dsk} (h : Off m) : burn m = (m, 0) := by
  unfold burn; rw [if_neg (by simp [h.dead, h.fuse]), if_neg (by rw [h.fuse]; decide)]
theorem change_off {m : Dsk} (h : Off m) (c : Chg) : change m c = ({ m with names := apply c m.names, pend := m.pend ++ [c] }, 0) := by
  unfold change; rw [burn_off' h]; simp
theorem off_of {m m' : Dsk} (h : Off m) (e1 : m'.dead = m.dead) (e2 : m'.fuse = m.fuse) : Off m' := ⟨e1.trans h.dead, e2.trans h.fuse⟩
theorem create_off {m : Dsk} (h : Off m) (s : Nm) : Off (create m s).1 := by
  unfold create
  split
  · exact h
  · split
    · exact h
    · split
      · exact h
      · rw [change_off (m := { m with files := m.files ++ [noFile] }) (off_of h rfl rfl)]; exact off_of h rfl rfl
theorem append_off {m : Dsk} (h : Off m) (s b : Nm) : Off (append m s b).1 := by
  unfold append
  split
  · exact h
  · split
    · exact h
    · rw [burn_off' h]; exact off_of h rfl rfl
theorem sync_off {m : Dsk} (h : Off m) (s : Nm) : Off (sync m s).1 := by
  unfold sync
  split
  · exact h
  · rw [burn_off' h]; exact off_of h rfl rfl
theorem rename_off {m : Dsk} (h : Off m) (a b : Nm) : Off (rename m a b).1 := by
  unfold rename
  split
  · exact h
  · split
    · exact h
    · rw [change_off h]; exact off_of h rfl rfl
theorem remove_off {m : Dsk} (h : Off m) (a : Nm) : Off (remove m a).1 := by
  unfold remove
  split
  · exact h
  · rw [change_off h]; exact off_of h rfl rfl
theorem syncDir_off {m : Dsk} (h : Off m) : syncDir m = ({ m with sure := m.names, pend := [] }, 0) := by
  unfold syncDir; rw [burn_off' h]; simp
theorem create_tot (m : Dsk) (s : Nm) : tot (create m s).1.files = tot m.files ∧ (create m s).1.pend.length ≤ m.pend.length + 1 ∧ (create m s).1.quota = m.quota := by
  unfold create
  split
  · exact ⟨rfl, by simp, rfl⟩
  · split
    · exact ⟨rfl, by simp, rfl⟩
    · split
      · exact ⟨rfl, by simp, rfl⟩
      · obtain ⟨h1, h2, h3⟩ := change_tot { m with files := m.files ++ [noFile] } ⟨[], s, some m.files.length⟩
        exact ⟨by rw [h1]; simp [tot, noFile], h2, h3⟩
theorem append_tot (m : Dsk) (s b : Nm) : tot (append m s b).1.files ≤ tot m.files + b.length ∧ (append m s b).1.pend = m.pend ∧ (append m s b).1.quota = m.quota := by
  obtain ⟨e1, e2, e3, e4, e5⟩ := burn_files m
  unfold append
  split
  · exact ⟨by simp, rfl, rfl⟩
  · split
    · exact ⟨by simp, rfl, rfl⟩
    · split
      · exact ⟨tot_modify _ _ _ _ (fun f => by simp [grow]), e4, e5⟩
      · exact ⟨by rw [e1]; omega, e4, e5⟩
theorem sync_tot (m : Dsk) (s : Nm) : tot (sync m s).1.files ≤ tot m.files ∧ (sync m s).1.pend = m.pend ∧ (sync m s).1.quota = m.quota := by
  obtain ⟨e1, e2, e3, e4, e5⟩ := burn_files m
  unfold sync
  split
  · exact ⟨Nat.le_refl _, rfl, rfl⟩
  · split
    · exact ⟨tot_modify _ _ _ 0 (fun f => by simp [mkSure]), e4, e5⟩
    · exact ⟨by rw [e1]; omega, e4, e5⟩
theorem rename_tot (m : Dsk) (a b : Nm) : (rename m a b).1.files = m.files ∧ (rename m a b).1.pend.length ≤ m.pend.length + 1 ∧ (rename m a b).1.quota = m.quota := by
  unfold rename
  split
  · exact ⟨rfl, by simp, rfl⟩
  · split
    · exact ⟨rfl, by simp, rfl⟩
    · exact change_tot _ _
theorem remove_tot (m : Dsk) (a : Nm) : (remove m a).1.files = m.files ∧ (remove m a).1.pend.length ≤ m.pend.length + 1 ∧ (remove m a).1.quota = m.quota := by
  unfold remove
  split
  · exact ⟨rfl, by simp, rfl⟩
  · exact change_tot _ _
theorem syncDir_tot (m : Dsk) : (syncDir m).1.files = m.files ∧ (syncDir m).1.pend.length ≤ m.pend.length ∧ (syncDir m).1.quota = m.quota := by
  obtain ⟨e1, e2, e3, e4, e5⟩ := burn_files m
  unfold syncDir
  split
  · exact ⟨e1, by simp, e5⟩
  · exact ⟨e1, by rw [e4]; omega, e5⟩
/-! who is dead -/
/-- the names and the files' bytes are as they were, and it is dead -/
structure DeadAs (m m' : Dsk) : Prop where
  dead : m'.dead = true
  names : m'.names = m.names
  size : size m' = size m
theorem burn_deadAs {m : Dsk} (h : m.dead = true) : (burn m).2 = 30 ∧ DeadAs m (burn m).1 := by
  have e : burn m = ({ m with dead := true }, 30) := by unfold burn; rw [if_pos (by simp [h])]
  rw [e]
  exact ⟨rfl, rfl, rfl, rfl⟩
theorem deadAs_refl {m : Dsk} (h : m.dead = true) : DeadAs m m := ⟨h, rfl, rfl⟩
theorem change_dead {m : Dsk} (h : m.dead = true) (c : Chg) : (change m c).2 = 30 ∧ DeadAs m (change m c).1 := by
  obtain ⟨e1, e2⟩ := burn_deadAs h
  unfold change
  rw [if_neg (by rw [e1]; decide)]
  exact ⟨e1, e2⟩
theorem more_size {m : Dsk} (h : Good m) : size { m with files := m.files ++ [noFile] } = size m := by
  unfold size
  congr 1
  refine List.map_congr_left (fun p hp => ?_)
  have hi := (h.dir.each p hp).2
  unfold fileAt
  show (((m.files ++ [noFile])[p.2]?).getD noFile).bytes.length = _
  rw [List.getElem?_append_left hi]
theorem create_dead {m : Dsk} (hg : Good m) (h : m.dead = true) (s : Nm) : (create m s).2 ≠ 0 ∧ DeadAs m (create m s).1 := by
  unfold create
  split
  · exact ⟨by simp, deadAs_refl h⟩
  · split
    · exact ⟨by simp, deadAs_refl h⟩
    · split
      · exact ⟨by simp, deadAs_refl h⟩
      · obtain ⟨e1, e2⟩ := change_dead (m := { m with files := m.files ++ [noFile] }) h ⟨[], s, some m.files.length⟩
        exact ⟨by rw [e1]; decide, e2.dead, e2.names, e2.size.trans (more_size hg)⟩
theorem append_dead {m : Dsk} (h : m.dead = true) (s b : Nm) : (append m s b).2 ≠ 0 ∧ DeadAs m (append m s b).1 := by
  obtain ⟨e1, e2⟩ := burn_deadAs h
  unfold append
  split
  · exact ⟨by simp, deadAs_refl h⟩
  · split
    · exact ⟨by simp, deadAs_refl h⟩
    · rw [if_neg (by rw [e1]; decide)]; exact ⟨by rw [e1]; decide, e2⟩
theorem sync_dead {m : Dsk} (h : m.dead = true) (s : Nm) : (sync m s).2 ≠ 0 ∧ DeadAs m (sync m s).1 := by
  obtain ⟨e1, e2⟩ := burn_deadAs h
  unfold sync
  split
  · exact ⟨by simp, deadAs_refl h⟩
  · rw [if_neg (by rw [e1]; decide)]; exact ⟨by rw [e1]; decide, e2⟩
theorem rename_dead {m : Dsk} (h : m.dead = true) (a b : Nm) : (rename m a b).2 ≠ 0 ∧ DeadAs m (rename m a b).1 := by
  unfold rename
  split
  · exact ⟨by simp, deadAs_refl h⟩
  · split
    · exact ⟨by simp, deadAs_refl h⟩
    · obtain ⟨e1, e2⟩ := change_dead h ⟨a, b, none⟩; exact ⟨by rw [e1]; decide, e2⟩
theorem remove_dead {m : Dsk} (h : m.dead = true) (a : Nm) : (remove m a).2 ≠ 0 ∧ DeadAs m (remove m a).1 := by
  unfold remove
  split
  · exact ⟨by simp, deadAs_refl h⟩
  · obtain ⟨e1, e2⟩ := change_dead h ⟨a, [], none⟩; exact ⟨by rw [e1]; decide, e2⟩
theorem syncDir_dead {m : Dsk} (h : m.dead = true) : (syncDir m).2 ≠ 0 ∧ DeadAs m (syncDir m).1 := by
  obtain ⟨e1, e2⟩ := burn_deadAs h
  unfold syncDir
  rw [if_neg (by rw [e1]; decide)]; exact ⟨by rw [e1]; decide, e2⟩
/-! who tells ErrDown is dead -/
theorem burn_down {m : Dsk} (h : (burn m).2 ≠ 0) : (burn m).1.dead = true := by
  rcases burn_res m with ⟨h1, _⟩ | ⟨_, h2, _⟩
  · exact absurd h1 h
  · exact h2
theorem change_down {m : Dsk} {c : Chg} (h : (change m c).2 = 30) : (change m c).1.dead = true := by
  unfold change at h ⊢
  split
  · rename_i h1; rw [if_pos h1] at h; cases h
  · rename_i h1; exact burn_down h1
theorem create_down {m : Dsk} {s : Nm} (h : (create m s).2 = 30) : (create m s).1.dead = true := by
  unfold create at h ⊢
  repeat' split at h
  all_goals first | (cases h; done) | skip
  rename_i h1 h2 h3
  rw [if_neg h1, if_neg h2, if_neg h3]; exact change_down h
theorem append_down {m : Dsk} {s b : Nm} (h : (append m s b).2 = 30) : (append m s b).1.dead = true := by
  unfold append at h ⊢
  cases hd : dget m.names s with
  | none => rw [hd] at h; cases h
  | some i =>
    rw [hd] at h
    simp only at h ⊢
    by_cases hq : m.quota < ↑(size m) + ↑(List.length b)
    · rw [if_pos hq] at h; cases h
    · rw [if_neg hq] at h ⊢
      by_cases h1 : (burn m).2 = 0
      · rw [if_pos h1] at h; cases h
      · rw [if_neg h1]; exact burn_down h1
theorem sync_down {m : Dsk} {s : Nm} (h : (sync m s).2 = 30) : (sync m s).1.dead = true := by
  unfold sync at h ⊢
  cases hd : dget m.names s with
  | none => rw [hd] at h; cases h
  | some i =>
    rw [hd] at h
    simp only at h ⊢
    by_cases h1 : (burn m).2 = 0
    · rw [if_pos h1] at h; cases h
    · rw [if_neg h1]; exact burn_down h1
theorem rename_down {m : Dsk} {a b : Nm} (h : (rename m a b).2 = 30) : (rename m a b).1.dead = true := by
  unfold rename at h ⊢
  by_cases h1 : (dget m.names a).isSome = false
  · rw [if_pos h1] at h; cases h
  · rw [if_neg h1] at h ⊢
    by_cases h2 : may b = false
    · rw [if_pos h2] at h; cases h
    · rw [if_neg h2] at h ⊢; exact change_down h
theorem remove_down {m : Dsk} {a : Nm} (h : (remove m a).2 = 30) : (remove m a).1.dead = true := by
  unfold remove at h ⊢
  by_cases h1 : (dget m.names a).isSome = false
  · rw [if_pos h1] at h; cases h
  · rw [if_neg h1] at h ⊢; exact change_down h
theorem syncDir_down {m : Dsk} (h : (syncDir m).2 = 30) : (syncDir m).1.dead = true := by
  unfold syncDir at h ⊢
  by_cases h1 : (burn m).2 = 0
  · rw [if_pos h1] at h; cases h
  · rw [if_neg h1]; exact burn_down h1
end Fs
end Go.Proofs.YtlkcdcpdccmodaaGreatDoor
