/-
  What the small functions of package fs do with a disk: within, mayStand, May, burn, has, Dead, Fuse, Quota, Read, List.
-/
import Derived.Test.YtlkcdcpdccmodaaGreatDoorFsDisk
namespace Go.Proofs.YtlkcdcpdccmodaaGreatDoor
open Go.ChangeShapes Go.WideShapes Go.ChangeAt Go.RowKit Go.Maps
set_option linter.unusedVariables false
set_option maxRecDepth 100000
set_option maxHeartbeats 400000

section
variable {K : Nat → Prop} {w w' : World} {p : Nat} {G : Gh} {m : Fs.Dsk}
theorem IsDisk.cells (h : IsDisk K w p G m) : w.cell? ⟨p, 0, none⟩ = some (.map (some G.bn)) ∧ w.cell? ⟨p, 1, none⟩ = some (.map (some G.bs)) ∧ w.cell? ⟨p, 2, none⟩ = some G.pv ∧ w.cell? ⟨p, 3, none⟩ = some (.int .i64 m.quota) ∧ w.cell? ⟨p, 4, none⟩ = some (.int .i64 m.fuse) ∧ w.cell? ⟨p, 5, none⟩ = some (.bool m.dead) :=
  ⟨cell_of h.blk 0 rfl, cell_of h.blk 1 rfl, cell_of h.blk 2 rfl, cell_of h.blk 3 rfl, cell_of h.blk 4 rfl, cell_of h.blk 5 rfl⟩
theorem IsDisk.fro (h : IsDisk K w p G m) (i : Nat) : w.frozen? ⟨p, i, none⟩ = false := frozen_of h.blk i
theorem FileIn.cells {g : Nat} {v : Value} {f : Fs.File} (h : FileIn K w g v f) : w.cell? ⟨g, 0, none⟩ = some v ∧ w.cell? ⟨g, 1, none⟩ = some (.int .i64 f.sure) :=
  ⟨cell_of h.blk 0 rfl, cell_of h.blk 1 rfl⟩
theorem FileIn.fro {g : Nat} {v : Value} {f : Fs.File} (h : FileIn K w g v f) (i : Nat) : w.frozen? ⟨g, i, none⟩ = false := frozen_of h.blk i
end
theorem within_any (n l : Int) (w : World) : Calls Tryz.prog 55 #[.int .i64 n, .int .i64 l] w fun e w' => e = .returned (.int .i64 (Fs.within n l)) ∧ w = w' := by
  go_enter Tryz.func55, Tryz.ntmps55
  go_wp2
  go_ret
  exact ⟨rfl, rfl⟩
theorem stand_any (c : UInt8) (w : World) : Calls Tryz.prog 99 #[.int .u8 (c.toNat : Int)] w fun e w' => e = .returned (.bool (Fs.stand c)) ∧ w = w' := by
  have e1 : Fs.stand c = ((decide (97 ≤ (c.toNat : Int)) && decide ((c.toNat : Int) ≤ 122)) || (decide (48 ≤ (c.toNat : Int)) && decide ((c.toNat : Int) ≤ 57)) || ((c.toNat : Int) == 46)) := by
    unfold Fs.stand
    have h1 : decide (97 ≤ c) = decide (97 ≤ (c.toNat : Int)) := by rw [Bool.eq_iff_iff]; simp [UInt8.le_iff_toNat_le]; omega
    have h2 : decide (c ≤ 122) = decide ((c.toNat : Int) ≤ 122) := by rw [Bool.eq_iff_iff]; simp [UInt8.le_iff_toNat_le]; omega
    have h3 : decide (48 ≤ c) = decide (48 ≤ (c.toNat : Int)) := by rw [Bool.eq_iff_iff]; simp [UInt8.le_iff_toNat_le]; omega
    have h4 : decide (c ≤ 57) = decide ((c.toNat : Int) ≤ 57) := by rw [Bool.eq_iff_iff]; simp [UInt8.le_iff_toNat_le]; omega
    have h5 : (c == 46) = ((c.toNat : Int) == 46) := by rw [Bool.eq_iff_iff]; simp [← UInt8.toNat_inj]; omega
    rw [h1, h2, h3, h4, h5]
  have E := Lib.hid e1; clear e1
  go_enter Tryz.func99, Tryz.ntmps99
  go_wp2
  all_goals
    go_ret
    refine ⟨ret_bool ?_, rfl⟩
    rw [E.out]
    first | (simp_all; done) | (rw [Bool.eq_iff_iff]; simp; omega)
theorem may_any (s : ByteArray) (w : World) (hs : s.size ≤ maxLen) : Calls Tryz.prog 79 #[.string s] w fun e w' => e = .returned (.bool (Fs.may s.data.toList)) ∧ w = w' := by
  unfold maxLen at hs
  by_cases h1 : 1 ≤ s.size ∧ s.size ≤ 20
  · obtain ⟨h1, h2⟩ := h1
    go_enter Tryz.func79, Tryz.ntmps79
    go_wp2
    go_loop [14] (fun i => ∃ k : Nat, k ≤ s.size ∧ i = .int .i64 k ∧ Hid ((s.data.toList.take k).all Fs.stand = true)) (fun i => s.size - (intOf i).toNat)
    case atStart => exact ⟨0, Nat.zero_le _, rfl, rfl⟩
    case round =>
      obtain ⟨k, hk, rfl, HA⟩ := hrel
      by_cases hlt : k < s.size
      · have hts : s.data.toList.take (k + 1) = s.data.toList.take k ++ [s[k]] := by
          rw [List.take_succ_eq_append_getElem (by simpa using hlt)]; rfl
        have HS := Lib.hid hts; clear hts
        have hin : s[k] ∈ s.data.toList := by
          have : s[k] = s.data.toList[k]'(by simpa using hlt) := rfl
          rw [this]; exact List.getElem_mem _
        have HI := Lib.hid hin; clear hin
        go_wp2_with (go_at_call 99; refine (stand_any _ _).mono ?_; rintro e w' ⟨rfl, rfl⟩)
        · have hst : Fs.stand s[k] = false := by simpa using (show (!Fs.stand s[k]) = true by assumption)
          go_ret
          refine ⟨ret_bool ?_, rfl⟩
          have : s.data.toList.all Fs.stand = false := by rw [List.all_eq_false]; exact ⟨_, HI.out, by simp [hst]⟩
          simp [Fs.may, this]
        · have hst : Fs.stand s[k] = true := by simpa using (show (!Fs.stand s[k]) = false by assumption)
          go_round
          case rel => exact ⟨k + 1, by omega, by go_num, by show (List.take (k + 1) s.data.toList).all Fs.stand = true; rw [HS.out, List.all_append, HA.out]; simp [hst]⟩
          case measure => simp [intOf]; omega
      · go_wp2
        go_ret
        refine ⟨ret_bool ?_, rfl⟩
        have e := HA.out
        rw [List.take_of_length_le (by simp; omega)] at e
        simp [Fs.may, e]
        exact ⟨h1, h2⟩
  · have hno : Fs.may s.data.toList = false := by
      simp only [Fs.may, Bool.and_eq_false_iff, decide_eq_false_iff_not]
      left
      have : s.data.toList.length = s.size := by simp
      omega
    rw [hno]
    clear hno
    by_cases h2 : 1 ≤ s.size
    · have h3 : 20 < s.size := by omega
      clear h1
      go_enter Tryz.func79, Tryz.ntmps79
      go_wp2
      go_ret
      exact ⟨rfl, rfl⟩
    · have h3 : s.size < 1 := by omega
      clear h1
      go_enter Tryz.func79, Tryz.ntmps79
      go_wp2
      go_ret
      exact ⟨rfl, rfl⟩
theorem burn_dead {m : Fs.Dsk} (h : m.dead = true ∨ m.fuse = 0) : Fs.burn m = ({ m with dead := true }, 30) := by
  unfold Fs.burn; rw [if_pos (by simpa using h)]
theorem burn_on {m : Fs.Dsk} (h : m.dead = false) (h1 : 0 < m.fuse) : Fs.burn m = ({ m with fuse := m.fuse - 1 }, 0) := by
  unfold Fs.burn; rw [if_neg (by simp [h]; omega), if_pos h1]
theorem burn_off {m : Fs.Dsk} (h : m.dead = false) (h1 : m.fuse < 0) : Fs.burn m = (m, 0) := by
  unfold Fs.burn; rw [if_neg (by simp [h]; omega), if_neg (by omega)]
theorem burn_any {K : Nat → Prop} {w : World} {p : Nat} {G : Gh} {m : Fs.Dsk} (h : IsDisk K w p G m) :
    Calls Tryz.prog 72 #[.pointer (some ⟨p, 0, none⟩)] w fun e w' => e = .returned (.int .i64 (Fs.burn m).2) ∧ IsDisk K w' p G (Fs.burn m).1 ∧ Kp K w w' := by
  obtain ⟨c0, c1, c2, c3, c4, c5⟩ := h.cells
  have f4 := h.fro 4
  have f5 := h.fro 5
  have hf0 := h.good.f0
  have hf1 := h.good.f1
  have hgd := h.good.burn
  by_cases h1 : m.fuse = 0
  · rw [burn_dead (.inr h1)] at hgd ⊢
    have e1 : (m.fuse == 0) = true := by simp [h1]
    have E := Lib.hid h1; clear h1
    go_enter Tryz.func72, Tryz.ntmps72
    go_wp2
    go_ret
    have hg := grown_setCell w p 5 (.bool true)
    exact ⟨rfl, h.setDisk hg (heap_set h.blk) hgd, h.kp hg⟩
  · have e1 : (m.fuse == 0) = false := by simp [h1]
    cases hd : m.dead
    · by_cases h2 : 0 < m.fuse
      · rw [burn_on hd h2] at hgd ⊢
        have D := Lib.hid hd; rw [hd] at c5; clear hd
        have e2 : decide (0 < m.fuse) = true := by simpa using h2
        go_enter Tryz.func72, Tryz.ntmps72
        go_wp2
        go_ret
        have hg := grown_setCell w p 4 (.int .i64 (m.fuse - 1))
        exact ⟨rfl, h.setDisk hg (heap_set h.blk) hgd, h.kp hg⟩
      · rw [burn_off hd (by omega)] at hgd ⊢
        have D := Lib.hid hd; rw [hd] at c5; clear hd
        have e2 : decide (0 < m.fuse) = false := by simpa using h2
        go_enter Tryz.func72, Tryz.ntmps72
        go_wp2
        go_ret
        exact ⟨rfl, h, Kp.refl _ _⟩
    · rw [burn_dead (.inl hd)] at hgd ⊢
      have D := Lib.hid hd; rw [hd] at c5; clear hd
      go_enter Tryz.func72, Tryz.ntmps72
      go_wp2
      go_ret
      refine ⟨rfl, ?_, Kp.refl _ _⟩
      have e3 : ({ m with dead := true } : Fs.Dsk) = m := by cases m; simp at D ⊢; exact D.out
      rw [e3]; exact h
theorem has_any {K : Nat → Prop} {w : World} {p : Nat} {G : Gh} {m : Fs.Dsk} (h : IsDisk K w p G m) (s : ByteArray) (hs : s.size ≤ maxLen) :
    Calls Tryz.prog 80 #[.pointer (some ⟨p, 0, none⟩), .string s] w fun e w' => e = .returned (.bool (Fs.dget m.names s.data.toList).isSome) ∧ w = w' := by
  obtain ⟨c0, c1, c2, c3, c4, c5⟩ := h.cells
  have hl := look_dir h.names hs
  cases hg : Fs.dget m.names s.data.toList <;> rw [hg] at hl <;> simp only [ptrV_none, ptrV_some] at hl <;> (have HG := Lib.hid hg; clear hg)
  all_goals
    go_enter Tryz.func80, Tryz.ntmps80
    go_wp2
    go_ret
    exact ⟨rfl, rfl⟩
theorem quota_any {K : Nat → Prop} {w : World} {p : Nat} {G : Gh} {m : Fs.Dsk} (h : IsDisk K w p G m) (n : Int) (hn : n ≤ 9223372036854775807) :
    Calls Tryz.prog 21 #[.pointer (some ⟨p, 0, none⟩), .int .i64 n] w fun e w' => e = .returned (.tuple #[]) ∧ IsDisk K w' p G (Fs.quota m n) ∧ Kp K w w' := by
  obtain ⟨c0, c1, c2, c3, c4, c5⟩ := h.cells
  have f3 := h.fro 3
  have hgd := h.good.quota n hn
  go_enter Tryz.func21, Tryz.ntmps21
  go_wp2
  go_end0
  have hg := grown_setCell w p 3 (.int .i64 (max n 0))
  exact ⟨rfl, h.setDisk hg (heap_set h.blk) hgd, h.kp hg⟩
theorem fuse_any {K : Nat → Prop} {w : World} {p : Nat} {G : Gh} {m : Fs.Dsk} (h : IsDisk K w p G m) (n : Int) (hn : n ≤ 9223372036854775807) :
    Calls Tryz.prog 19 #[.pointer (some ⟨p, 0, none⟩), .int .i64 n] w fun e w' => e = .returned (.tuple #[]) ∧ IsDisk K w' p G (Fs.fuse m n) ∧ Kp K w w' := by
  obtain ⟨c0, c1, c2, c3, c4, c5⟩ := h.cells
  have f4 := h.fro 4
  have hgd := h.good.fuse n hn
  unfold Fs.fuse at hgd ⊢
  by_cases hd : m.dead = true
  case neg =>
    rw [if_neg hd] at hgd ⊢
    rw [Bool.not_eq_true] at hd
    have D := Lib.hid hd
    rw [hd] at c5
    clear hd
    go_enter Tryz.func19, Tryz.ntmps19
    go_wp2
    go_end0
    have hg := grown_setCell w p 4 (.int .i64 (max n (-1)))
    exact ⟨rfl, h.setDisk hg (heap_set h.blk) hgd, h.kp hg⟩
  case pos =>
    rw [if_pos hd]
    have D := Lib.hid hd
    rw [hd] at c5
    clear hd
    go_enter Tryz.func19, Tryz.ntmps19
    go_wp2
    go_end0
    exact ⟨rfl, h, Kp.refl _ _⟩
theorem read_any {K : Nat → Prop} {w : World} {p : Nat} {G : Gh} {m : Fs.Dsk} (h : IsDisk K w p G m) (s : ByteArray) (hs : s.size ≤ maxLen) :
    Calls Tryz.prog 61 #[.pointer (some ⟨p, 0, none⟩), .string s] w fun e w' => e = .returned (.tuple #[.string (bs (Fs.read m s.data.toList).1), .int .i64 (Fs.read m s.data.toList).2]) ∧ w = w' := by
  obtain ⟨c0, c1, c2, c3, c4, c5⟩ := h.cells
  have hl := look_dir_ok h.names hs
  unfold Fs.read
  cases hg : Fs.dget m.names s.data.toList with
  | none =>
    rw [hg] at hl; simp only [ptrV_none, Option.isSome_none] at hl
    clear hg
    go_enter Tryz.func61, Tryz.ntmps61
    go_wp2
    go_ret2
    exact ⟨rfl, rfl⟩
  | some i =>
    rw [hg] at hl; simp only [ptrV_some, Option.isSome_some] at hl
    have hi := (h.good.dir.each _ (Fs.dget_mem hg)).2
    clear hg
    have hf := h.files i hi
    obtain ⟨d0, d1⟩ := hf.cells
    have hcv := conv_owned hf.own
    go_enter Tryz.func61, Tryz.ntmps61
    go_wp2
    go_ret2
    exact ⟨rfl, rfl⟩
theorem list_any {K : Nat → Prop} {w : World} {p : Nat} {G : Gh} {m : Fs.Dsk} (h : IsDisk K w p G m) :
    Calls Tryz.prog 35 #[.pointer (some ⟨p, 0, none⟩)] w fun e w' => ∃ v, e = .returned v ∧ w'.ownsRow w.heap.size 9 1 v m.names.length ((Fs.list m).map Go.Proofs.encStr) ∧ Kept w w' := by
  obtain ⟨c0, c1, c2, c3, c4, c5⟩ := h.cells
  go_enter Tryz.func35, Tryz.ntmps35
  go_wp2_with (go_at_call 57; refine (rising_dir h.names h.good.dir.rise h.good.dir.few).mono ?_; rintro e w1 ⟨v, rfl, hown, hb⟩)
  go_ret
  exact ⟨v, rfl, hown, hb⟩
end Go.Proofs.YtlkcdcpdccmodaaGreatDoor
