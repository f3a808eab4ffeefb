/-
  The plain mathematics of logs, the second part: what is laid on a disk of one log, or of two, and what is read back behind a crash. No program.
-/
import Derived.Test.YtlkcdcpdccmodaaGreatDoorWalMath
namespace Go.Proofs.YtlkcdcpdccmodaaGreatDoor
open Go.RowKit Go.WideShapes
set_option linter.unusedVariables false
set_option maxRecDepth 100000
namespace Wl
structure Lg where
  n : Nat
  size : Nat
  broken : Bool
def lay (m : Fs.Dsk) (n : Nat) (f : List UInt8) : Fs.Dsk × Int :=
  if (Fs.append m (nm n) f).2 = 0 then Fs.sync (Fs.append m (nm n) f).1 (nm n) else Fs.append m (nm n) f
/-- the log behind laying k bytes with answer e -/
def after (l : Lg) (k : Nat) (e : Int) : Lg := if e = 0 then { l with size := l.size + k } else if e = 12 then l else { l with broken := true }
def addD (m : Fs.Dsk) (l : Lg) (t : List UInt8) : Fs.Dsk := if l.broken then m else if 8000 < t.length then m else (lay m l.n (Fr.mk t)).1
def addE (m : Fs.Dsk) (l : Lg) (t : List UInt8) : Int := if l.broken then 30 else if 8000 < t.length then 5 else (lay m l.n (Fr.mk t)).2
def addL (m : Fs.Dsk) (l : Lg) (t : List UInt8) : Lg := if l.broken then l else if 8000 < t.length then l else after l (Fr.mk t).length (lay m l.n (Fr.mk t)).2
/-- the disk, and the answer, behind Create -/
def mkLog (m : Fs.Dsk) (n : Nat) : Fs.Dsk × Int :=
  if n ≤ 1099511627776 then if (Fs.create m (nm n)).2 = 0 then Fs.syncDir (Fs.create m (nm n)).1 else Fs.create m (nm n) else (m, 1)
/-! a disk of one log -/
def one (n : Nat) (B : List UInt8) (s : Nat) (q f : Int) (d : Bool) : Fs.Dsk := ⟨[⟨B, s⟩], [(nm n, 0)], [(nm n, 0)], [], q, f, d⟩
theorem dget_one (n : Nat) : Fs.dget [(nm n, 0)] (nm n) = some 0 := by simp [Fs.dget]
theorem size_one (n : Nat) (B : List UInt8) (s : Nat) (q f : Int) (d : Bool) : Fs.size (one n B s q f d) = B.length := by simp [Fs.size, one, Fs.fileAt]
theorem read_one (n : Nat) (B : List UInt8) (s : Nat) (q f : Int) (d : Bool) : Fs.read (one n B s q f d) (nm n) = (B, 0) := by
  simp only [Fs.read, one, dget_one]; rfl
theorem burn_off (n : Nat) (B : List UInt8) (s : Nat) (q f : Int) (h : f < 0) : Fs.burn (one n B s q f false) = (one n B s q f false, 0) := by
  unfold Fs.burn one
  simp only [Bool.false_or, beq_iff_eq]
  rw [if_neg (by omega), if_neg (by omega)]
theorem burn_out (n : Nat) (B : List UInt8) (s : Nat) (q : Int) : Fs.burn (one n B s q 0 false) = (one n B s q 0 true, 30) := rfl
theorem burn_lit (n : Nat) (B : List UInt8) (s : Nat) (q f : Int) (h : 0 < f) : Fs.burn (one n B s q f false) = (one n B s q (f - 1) false, 0) := by
  unfold Fs.burn one
  simp only [Bool.false_or, beq_iff_eq]
  rw [if_neg (by omega), if_pos (by omega)]
theorem app_full (n : Nat) (B b : List UInt8) (s : Nat) (q f : Int) (d : Bool) (h : q < B.length + b.length) : Fs.append (one n B s q f d) (nm n) b = (one n B s q f d, 12) := by
  unfold Fs.append
  have e : Fs.dget (one n B s q f d).names (nm n) = some 0 := dget_one n
  rw [e]
  simp only []
  rw [if_pos (by rw [size_one]; exact h)]
theorem app_down (n : Nat) (B b : List UInt8) (s : Nat) (q : Int) (h : (B.length : Int) + b.length ≤ q) : Fs.append (one n B s q 0 false) (nm n) b = (one n B s q 0 true, 30) := by
  unfold Fs.append
  have e : Fs.dget (one n B s q 0 false).names (nm n) = some 0 := dget_one n
  rw [e]
  simp only []
  rw [if_neg (by rw [size_one]; show ¬ q < _; omega), burn_out, if_neg (show ¬ (30 : Int) = 0 by decide)]
theorem app_ok (n : Nat) (B b : List UInt8) (s : Nat) (q f f' : Int) (h : (B.length : Int) + b.length ≤ q) (hb : Fs.burn (one n B s q f false) = (one n B s q f' false, 0)) : Fs.append (one n B s q f false) (nm n) b = (one n (B ++ b) s q f' false, 0) := by
  unfold Fs.append
  have e : Fs.dget (one n B s q f false).names (nm n) = some 0 := dget_one n
  rw [e]
  simp only []
  rw [if_neg (by rw [size_one]; show ¬ q < _; omega), hb, if_pos rfl]
  rfl
theorem sync_ok (n : Nat) (B : List UInt8) (s : Nat) (q f f' : Int) (hb : Fs.burn (one n B s q f false) = (one n B s q f' false, 0)) : Fs.sync (one n B s q f false) (nm n) = (one n B B.length q f' false, 0) := by
  unfold Fs.sync
  have e : Fs.dget (one n B s q f false).names (nm n) = some 0 := dget_one n
  rw [e]
  simp only []
  rw [hb, if_pos rfl]
  rfl
theorem sync_down (n : Nat) (B : List UInt8) (s : Nat) (q : Int) : Fs.sync (one n B s q 0 false) (nm n) = (one n B s q 0 true, 30) := by
  unfold Fs.sync
  have e : Fs.dget (one n B s q 0 false).names (nm n) = some 0 := dget_one n
  rw [e]
  simp only []
  rw [burn_out, if_neg (show ¬ (30 : Int) = 0 by decide)]
/-- a disk whose fuse is off -/
theorem lay_off (n : Nat) (B b : List UInt8) (s : Nat) (q : Int) : lay (one n B s q (-1) false) n b = if q < B.length + b.length then (one n B s q (-1) false, 12) else (one n (B ++ b) (B ++ b).length q (-1) false, 0) := by
  unfold lay
  split
  · rename_i h
    by_cases hq : q < B.length + b.length
    · rw [app_full _ _ _ _ _ _ _ hq] at h; exact absurd h (show ¬ (12 : Int) = 0 by decide)
    · rw [app_ok n B b s q (-1) (-1) (by omega) (burn_off _ _ _ _ _ (by decide)), sync_ok _ _ _ _ (-1) (-1) (burn_off _ _ _ _ _ (by decide)), if_neg hq]
  · rename_i h
    by_cases hq : q < B.length + b.length
    · rw [app_full _ _ _ _ _ _ _ hq, if_pos hq]
    · rw [app_ok n B b s q (-1) (-1) (by omega) (burn_off _ _ _ _ _ (by decide))] at h; exact absurd rfl h
/-- one whose fuse burns, and that has room -/
theorem lay_lit0 (n : Nat) (B b : List UInt8) (s : Nat) (q : Int) (h : (B.length : Int) + b.length ≤ q) : lay (one n B s q 0 false) n b = (one n B s q 0 true, 30) := by
  unfold lay; rw [app_down n B b s q h, if_neg (show ¬ (30 : Int) = 0 by decide)]
theorem lay_lit1 (n : Nat) (B b : List UInt8) (s : Nat) (q : Int) (h : (B.length : Int) + b.length ≤ q) : lay (one n B s q 1 false) n b = (one n (B ++ b) s q 0 true, 30) := by
  unfold lay; rw [app_ok n B b s q 1 0 h (burn_lit _ _ _ _ 1 (by decide)), if_pos rfl]; exact sync_down _ _ _ _
theorem lay_lit (n : Nat) (B b : List UInt8) (s : Nat) (q f : Int) (hf : 2 ≤ f) (h : (B.length : Int) + b.length ≤ q) : lay (one n B s q f false) n b = (one n (B ++ b) (B ++ b).length q (f - 2) false, 0) := by
  unfold lay; rw [app_ok n B b s q f (f - 1) h (burn_lit _ _ _ _ f (by omega)), if_pos rfl, sync_ok n (B ++ b) s q (f - 1) (f - 2) (by rw [burn_lit _ _ _ _ (f - 1) (by omega)]; congr 2; omega)]
theorem mkLog_new {n : Nat} (h : n ≤ 1099511627776) : mkLog Fs.new n = (one n [] 0 1048576 (-1) false, 0) := by
  have hc : Fs.create Fs.new (nm n) = (⟨[Fs.noFile], [(nm n, 0)], [], [⟨[], nm n, some 0⟩], 1048576, -1, false⟩, 0) := by
    have hne : nm n ≠ [] := by unfold nm pre; simp
    unfold Fs.create
    rw [if_neg (by rw [may_nm h]; decide), if_neg (by simp [Fs.new, Fs.dget]), if_neg (by simp [Fs.new])]
    unfold Fs.change Fs.burn Fs.apply
    simp [Fs.new, hne, Fs.dput, Fs.ddel, Fs.ins]
  unfold mkLog
  rw [if_pos h, hc, if_pos rfl]
  rfl
theorem mkLog_far {n : Nat} (m : Fs.Dsk) (h : 1099511627776 < n) : mkLog m n = (m, 1) := if_neg (by omega)
/-- a crash of a disk of one log: what was sure and some of the rest -/
theorem crash_log (n : Nat) (B : List UInt8) (s : Nat) (q f : Int) (d : Bool) (c : Int) (keep : List Int) (hs : s ≤ B.length) : ∃ k, s ≤ k ∧ k ≤ B.length ∧ Fs.crash (one n B s q f d) c keep = one n (B.take k) k q (-1) false := by
  have hk : Fs.keptOf (one n B s q f d) c = [(nm n, 0)] := by simp [Fs.keptOf, one, Fs.applyAll]
  unfold Fs.crash
  rw [hk]
  have hw := fun (x : Int) => (show 0 ≤ Fs.within x ((B.length : Int) - s) ∧ Fs.within x ((B.length : Int) - s) ≤ (B.length : Int) - s by unfold Fs.within; omega)
  have e : ∃ x : Int, Fs.cutsN [(nm n, 0)] keep (one n B s q f d).files [(nm n, 0)].length = [Fs.cut x ⟨B, s⟩] := by
    simp only [one, List.length_cons, List.length_nil, Fs.cutsN]
    first
    | exact ⟨_, rfl⟩
    | (simp; exact ⟨_, rfl⟩)
  obtain ⟨x, e⟩ := e
  refine ⟨s + (Fs.within x ((B.length : Int) - s)).toNat, by omega, by have := hw x; omega, ?_⟩
  rw [e]
  rfl
/-! what is read back -/
theorem reads_more {l : List (List UInt8)} (hf : Fr.Fit l) (tail : List UInt8) : ∃ m r, Fr.Reads (Fr.join l ++ tail) (l ++ m) r := by
  obtain ⟨m, r, h⟩ := Fr.reads_some tail
  exact ⟨m, r, Fr.fit_app.2 ⟨hf, h.fit⟩, by rw [h.eq, Fr.join_app, List.append_assoc], h.stop⟩
theorem reads_tail {l g : List (List UInt8)} {tail r : List UInt8} (hf : Fr.Fit l) (h : Fr.Reads (Fr.join l ++ tail) g r) : l.length ≤ g.length ∧ g.take l.length = l ∧ (tail = [] → g = l) := by
  obtain ⟨m, q, h'⟩ := reads_more hf tail
  obtain ⟨rfl, rfl⟩ := Fr.reads_one h h'
  refine ⟨by simp, by simp, fun e => ?_⟩
  subst e
  rw [List.append_nil] at h
  exact (Fr.reads_one h (Fr.reads_join hf)).1
theorem join_mono {l : List (List UInt8)} {a b : Nat} (h : a ≤ b) : (Fr.join (l.take a)).length ≤ (Fr.join (l.take b)).length := by
  have e : l.take b = l.take a ++ (l.take b).drop a := by
    have := List.take_append_drop a (l.take b)
    rw [List.take_take, Nat.min_eq_left h] at this
    exact this.symm
  rw [e, Fr.join_app, List.length_append]; omega
/-- of the texts l, with n of them sure, all of these are read back, and nothing but a beginning of l -/
theorem reads_cut {l g : List (List UInt8)} {r : List UInt8} {n k : Nat} (hf : Fr.Fit l) (hn : n ≤ l.length) (hk : (Fr.join (l.take n)).length ≤ k) (h : Fr.Reads ((Fr.join l).take k) g r) : n ≤ g.length ∧ g.length ≤ l.length ∧ g = l.take g.length := by
  obtain ⟨h1, h2, h3⟩ := Fr.cut hf h
  refine ⟨?_, h1, h2⟩
  by_cases hlt : g.length < n
  · exfalso
    have hl : g.length < l.length := by omega
    have h4 := h3 l[g.length] (List.getElem?_eq_getElem hl)
    have e : l.take (g.length + 1) = g ++ [l[g.length]] := by
      rw [List.take_add_one, ← h2, List.getElem?_eq_getElem hl]; rfl
    have h5 := join_mono (l := l) (show g.length + 1 ≤ n by omega)
    rw [e, Fr.join_snoc, List.length_append] at h5
    omega
  · omega
/-! a disk of two logs: 5 and 3 -/
def two (A B : List UInt8) : Fs.Dsk := ⟨[⟨A, A.length⟩, ⟨B, B.length⟩], [(nm 3, 1), (nm 5, 0)], [(nm 3, 1), (nm 5, 0)], [], 1048576, -1, false⟩
def rest (A B : List UInt8) : Fs.Dsk := ⟨[⟨A, A.length⟩, ⟨B, B.length⟩], [(nm 5, 0)], [(nm 3, 1), (nm 5, 0)], [⟨nm 3, [], none⟩], 1048576, -1, false⟩
theorem nm3 : nm 3 = [119, 97, 108, 46, 51] := by unfold nm; rw [Lib.decDigits_one (by decide)]; rfl
theorem nm5 : nm 5 = [119, 97, 108, 46, 53] := by unfold nm; rw [Lib.decDigits_one (by decide)]; rfl
theorem mkLog_two : mkLog (one 5 [] 0 1048576 (-1) false) 3 = (two [] [], 0) := by
  unfold mkLog one two
  rw [nm3, nm5, if_pos (by decide)]
  rfl
theorem lay_five (A B b : List UInt8) (h : A.length + B.length + b.length ≤ 1048576) : lay (two A B) 5 b = (two (A ++ b) B, 0) := by
  have hs : Fs.size (two A B) = B.length + A.length := by simp [Fs.size, two, Fs.fileAt]
  have hd : Fs.dget (two A B).names (nm 5) = some 0 := by unfold two; rw [nm3, nm5]; rfl
  have ha : Fs.append (two A B) (nm 5) b = (⟨[⟨A ++ b, A.length⟩, ⟨B, B.length⟩], [(nm 3, 1), (nm 5, 0)], [(nm 3, 1), (nm 5, 0)], [], 1048576, -1, false⟩, 0) := by
    unfold Fs.append
    rw [hd]
    simp only []
    rw [hs, if_neg (show ¬ (two A B).quota < ((B.length + A.length : Nat) : Int) + b.length by show ¬ (1048576 : Int) < _; omega)]
    rfl
  unfold lay
  rw [ha, if_pos rfl]
  unfold Fs.sync
  have hd2 : Fs.dget [(nm 3, 1), (nm 5, 0)] (nm 5) = some 0 := hd
  simp only [hd2]
  rfl
theorem lay_three (A B b : List UInt8) (h : A.length + B.length + b.length ≤ 1048576) : lay (two A B) 3 b = (two A (B ++ b), 0) := by
  have hs : Fs.size (two A B) = B.length + A.length := by simp [Fs.size, two, Fs.fileAt]
  have hd : Fs.dget (two A B).names (nm 3) = some 1 := by unfold two; rw [nm3, nm5]; rfl
  have ha : Fs.append (two A B) (nm 3) b = (⟨[⟨A, A.length⟩, ⟨B ++ b, B.length⟩], [(nm 3, 1), (nm 5, 0)], [(nm 3, 1), (nm 5, 0)], [], 1048576, -1, false⟩, 0) := by
    unfold Fs.append
    rw [hd]
    simp only []
    rw [hs, if_neg (show ¬ (two A B).quota < ((B.length + A.length : Nat) : Int) + b.length by show ¬ (1048576 : Int) < _; omega)]
    rfl
  unfold lay
  rw [ha, if_pos rfl]
  unfold Fs.sync
  have hd2 : Fs.dget [(nm 3, 1), (nm 5, 0)] (nm 3) = some 1 := hd
  simp only [hd2]
  rfl
theorem read_five (A B : List UInt8) : Fs.read (two A B) (nm 5) = (A, 0) := by
  have hd : Fs.dget (two A B).names (nm 5) = some 0 := by unfold two; rw [nm3, nm5]; rfl
  unfold Fs.read; rw [hd]; rfl
theorem read_three (A B : List UInt8) : Fs.read (two A B) (nm 3) = (B, 0) := by
  have hd : Fs.dget (two A B).names (nm 3) = some 1 := by unfold two; rw [nm3, nm5]; rfl
  unfold Fs.read; rw [hd]; rfl
theorem remove_three (A B : List UInt8) : Fs.remove (two A B) (nm 3) = (rest A B, 0) := by
  unfold Fs.remove two rest
  rw [nm3, nm5]
  rfl
theorem read_rest5 (A B : List UInt8) : Fs.read (rest A B) (nm 5) = (A, 0) := by
  have hd : Fs.dget (rest A B).names (nm 5) = some 0 := by unfold rest; rw [nm3, nm5]; rfl
  unfold Fs.read; rw [hd]; rfl
theorem read_rest3 (A B : List UInt8) : Fs.read (rest A B) (nm 3) = ([], 10) := by
  have hd : Fs.dget (rest A B).names (nm 3) = none := by unfold rest; rw [nm3, nm5]; rfl
  unfold Fs.read; rw [hd]
theorem list_rest (A B : List UInt8) : Fs.list (rest A B) = [nm 5] := rfl
end Wl
end Go.Proofs.YtlkcdcpdccmodaaGreatDoor
