/-
  What an act leaves, over all kinds of acts; acts that are handed over in a list.
-/
import Derived.Test.YtlkcdcpdccmodaaGreatDoorFsAwake
import Derived.Test.YtlkcdcpdccmodaaGreatDoorFsLawMath
namespace Go.Proofs.YtlkcdcpdccmodaaGreatDoor
open Go.ChangeShapes Go.WideShapes Go.ChangeAt Go.RowKit Go.Maps
set_option linter.unusedVariables false
set_option maxRecDepth 100000
set_option maxHeartbeats 400000

theorem fplay_tot (m : Fs.Dsk) (x : FsAct) : Fs.tot (fplay m x).1.files ≤ Fs.tot m.files + x.b.data.toList.length ∧ (fplay m x).1.pend.length ≤ m.pend.length + 1 := by
  unfold fplay
  split
  · have := Fs.create_tot m x.a.data.toList; omega
  split
  · have := Fs.append_tot m x.a.data.toList x.b.data.toList; exact ⟨this.1, by rw [this.2.1]; omega⟩
  split
  · have := Fs.sync_tot m x.a.data.toList; exact ⟨by omega, by rw [this.2.1]; omega⟩
  split
  · have := Fs.rename_tot m x.a.data.toList x.b.data.toList; exact ⟨by rw [this.1]; omega, this.2.1⟩
  split
  · have := Fs.remove_tot m x.a.data.toList; exact ⟨by rw [this.1]; omega, this.2.1⟩
  split
  · have := Fs.syncDir_tot m; exact ⟨by rw [this.1]; omega, by omega⟩
  split
  · unfold Fs.fuse; split <;> exact ⟨by simp, by simp⟩
  split
  · exact ⟨by simp [Fs.quota], by simp [Fs.quota]⟩
  split
  · have := Fs.cutsN_tot (Fs.keptOf m x.n) x.k m.files (Fs.keptOf m x.n).length
    exact ⟨by show Fs.tot (Fs.cutsN _ _ _ _) ≤ _; omega, by simp [Fs.crash]⟩
  · exact ⟨by simp, by simp⟩
theorem fplay_off {m : Fs.Dsk} (h : Fs.Off m) (x : FsAct) (hx : x.kind ≠ 6) : Fs.Off (fplay m x).1 := by
  unfold fplay
  split
  · exact Fs.create_off h _
  split
  · exact Fs.append_off h _ _
  split
  · exact Fs.sync_off h _
  split
  · exact Fs.rename_off h _ _
  split
  · exact Fs.remove_off h _
  split
  · rw [Fs.syncDir_off h]; exact Fs.off_of h rfl rfl
  split
  · exact Fs.off_of h rfl rfl
  split
  · exact ⟨rfl, rfl⟩
  · exact h
theorem fplay_quota (m : Fs.Dsk) (x : FsAct) (hx : x.kind ≠ 7) : (fplay m x).1.quota = m.quota := by
  unfold fplay
  split
  · exact (Fs.create_tot m _).2.2
  split
  · exact (Fs.append_tot m _ _).2.2
  split
  · exact (Fs.sync_tot m _).2.2
  split
  · exact (Fs.rename_tot m _ _).2.2
  split
  · exact (Fs.remove_tot m _).2.2
  split
  · exact (Fs.syncDir_tot m).2.2
  split
  · unfold Fs.fuse; split <;> rfl
  split <;> rfl
theorem fplay_dead {m : Fs.Dsk} (hg : Fs.Good m) (h : m.dead = true) (x : FsAct) (hx : x.kind ≠ 8) : Fs.DeadAs m (fplay m x).1 ∧ ((fplay m x).2 = 0 → ¬ (0 ≤ x.kind ∧ x.kind ≤ 5)) := by
  unfold fplay
  split
  · obtain ⟨h1, h2⟩ := Fs.create_dead hg h x.a.data.toList; exact ⟨h2, fun e => absurd e h1⟩
  split
  · obtain ⟨h1, h2⟩ := Fs.append_dead h x.a.data.toList x.b.data.toList; exact ⟨h2, fun e => absurd e h1⟩
  split
  · obtain ⟨h1, h2⟩ := Fs.sync_dead h x.a.data.toList; exact ⟨h2, fun e => absurd e h1⟩
  split
  · obtain ⟨h1, h2⟩ := Fs.rename_dead h x.a.data.toList x.b.data.toList; exact ⟨h2, fun e => absurd e h1⟩
  split
  · obtain ⟨h1, h2⟩ := Fs.remove_dead h x.a.data.toList; exact ⟨h2, fun e => absurd e h1⟩
  split
  · obtain ⟨h1, h2⟩ := Fs.syncDir_dead h; exact ⟨h2, fun e => absurd e h1⟩
  have hk : ¬ (0 ≤ x.kind ∧ x.kind ≤ 5) := by omega
  split
  · unfold Fs.fuse; rw [if_pos h]; exact ⟨Fs.deadAs_refl h, fun _ => hk⟩
  split
  · exact ⟨⟨h, rfl, rfl⟩, fun _ => hk⟩
  exact ⟨Fs.deadAs_refl h, fun _ => hk⟩
theorem fplay_down {m : Fs.Dsk} (x : FsAct) (e : (fplay m x).2 = 30) : (fplay m x).1.dead = true := by
  unfold fplay at e ⊢
  by_cases h0 : x.kind = 0
  · rw [if_pos h0] at e ⊢; exact Fs.create_down e
  rw [if_neg h0] at e ⊢
  by_cases h1 : x.kind = 1
  · rw [if_pos h1] at e ⊢; exact Fs.append_down e
  rw [if_neg h1] at e ⊢
  by_cases h2 : x.kind = 2
  · rw [if_pos h2] at e ⊢; exact Fs.sync_down e
  rw [if_neg h2] at e ⊢
  by_cases h3 : x.kind = 3
  · rw [if_pos h3] at e ⊢; exact Fs.rename_down e
  rw [if_neg h3] at e ⊢
  by_cases h4 : x.kind = 4
  · rw [if_pos h4] at e ⊢; exact Fs.remove_down e
  rw [if_neg h4] at e ⊢
  by_cases h5 : x.kind = 5
  · rw [if_pos h5] at e ⊢; exact Fs.syncDir_down e
  rw [if_neg h5] at e ⊢
  by_cases h6 : x.kind = 6
  · rw [if_pos h6] at e; cases e
  rw [if_neg h6] at e
  by_cases h7 : x.kind = 7
  · rw [if_pos h7] at e; cases e
  rw [if_neg h7] at e
  by_cases h8 : x.kind = 8
  · rw [if_pos h8] at e; cases e
  rw [if_neg h8] at e; cases e
theorem fplay_crash (m : Fs.Dsk) (x : FsAct) (hx : x.kind = 8) : fplay m x = (Fs.crash m x.n x.k, 0) := by
  unfold fplay
  simp [hx]
/-- acts that are handed over in a list -/
structure ActIn (B : Nat) (w : World) (b o : Nat) (x : FsAct) : Prop where
  lt : b < B
  c0 : w.cell? ⟨b, o, none⟩ = some (.int .i64 x.kind)
  c1 : w.cell? ⟨b, o + 1, none⟩ = some (.int .i64 x.n)
  c2 : w.cell? ⟨b, o + 2, none⟩ = some (.string x.a)
  c3 : w.cell? ⟨b, o + 3, none⟩ = some (.string x.b)
  c4 : ∃ ka kc, w.cell? ⟨b, o + 4, none⟩ = some (.slice ka x.k.length kc) ∧ IntsAt (fun i => i < B) w (.slice ka x.k.length kc) x.k
  n1 : x.n ≤ 9223372036854775807
  a1 : x.a.size ≤ maxLen
  b1 : x.b.size ≤ maxLen
  k1 : x.k.length ≤ maxLen
def ActsIn (B : Nat) (w : World) (A : Option Addr) (l : List FsAct) : Prop := ∀ (i : Nat) (x : FsAct), l[i]? = some x → ∃ b o, A = some ⟨b, o, none⟩ ∧ ActIn B w b (o + i * 5) x
theorem ActIn.kp {B : Nat} {w w' : World} {b o : Nat} {x : FsAct} (h : ActIn B w b o x) (hk : Kp (fun i => i < B) w w') : ActIn B w' b o x := by
  have e : ∀ j, w'.cell? ⟨b, j, none⟩ = w.cell? ⟨b, j, none⟩ := fun j => by simp [World.cell?, hk.block b h.lt]
  obtain ⟨ka, kc, h4, h5⟩ := h.c4
  exact ⟨h.lt, (e _).trans h.c0, (e _).trans h.c1, (e _).trans h.c2, (e _).trans h.c3, ⟨ka, kc, (e _).trans h4, h5.kp hk⟩, h.n1, h.a1, h.b1, h.k1⟩
theorem ActsIn.kp {B : Nat} {w w' : World} {A : Option Addr} {l : List FsAct} (h : ActsIn B w A l) (hk : Kp (fun i => i < B) w w') : ActsIn B w' A l := fun i x hx => by
  obtain ⟨b, o, e, ha⟩ := h i x hx
  exact ⟨b, o, e, ha.kp hk⟩
end Go.Proofs.YtlkcdcpdccmodaaGreatDoor
