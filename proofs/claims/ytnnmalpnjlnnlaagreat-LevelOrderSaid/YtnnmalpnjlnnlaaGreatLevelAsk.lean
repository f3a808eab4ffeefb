/-
  Package level over memory: what a version is asked: a level's tables, those that meet a range.
-/
import Derived.Test.YtnnmalpnjlnnlaaGreatLevelMeet
import Derived.Test.YtnnmalpnjlnnlaaGreatLaysL
import Derived.Shelf.SlicesE.Clone
namespace Go.Proofs.YtnnmalpnjlnnlaaGreat
open Go.ChangeShapes Go.WideShapes Go.ChangeAt Go.RowKit
set_option linter.unusedVariables false
set_option maxRecDepth 100000
set_option maxHeartbeats 6000000
open Lv
theorem mtl_one : ∀ (l : List Meta), ∀ u ∈ mtl l, u.oneCell' = true
  | [], u, h => by simp [mtl] at h
  | x :: l, u, h => by
    rw [mtl, List.mem_append] at h
    rcases h with h | h
    · simp only [mtc, List.mem_cons, List.not_mem_nil, or_false] at h
      rcases h with rfl | rfl | rfl | rfl | rfl <;> rfl
    · exact mtl_one l u h
theorem mts_news {w : World} {b o : Nat} {l : List Meta} (h : Mts w (some ⟨b, o, none⟩) l) : ∀ j u, (mtl l)[j]? = some u → w.cell? ⟨b, o + j, none⟩ = some u := by
  intro j u hj
  have hjl := (List.getElem?_eq_some_iff.1 hj).1
  rw [mtl_len] at hjl
  have hx : l[j / 5]? = some l[j / 5] := List.getElem?_eq_getElem (by omega)
  generalize l[j / 5] = x at hx
  have hg := mtl_get hx
  obtain ⟨b', o', e, hb, hm⟩ := h (j / 5) x hx
  cases e
  have hi : (mtc x)[j % 5]? = some u := by
    have h5 : j % 5 < (mtc x).length := by simp only [mtc, List.length_cons, List.length_nil]; omega
    have := hg (j % 5) _ (List.getElem?_eq_getElem h5)
    rw [show j / 5 * 5 + j % 5 = j by omega, hj] at this
    rw [List.getElem?_eq_getElem h5]; exact this.symm
  have := mtc_news hm (j % 5) u hi
  have hadd : (⟨b, o + j / 5 * 5, none⟩ : Addr).add (j % 5) = ⟨b, o + j, none⟩ := by
    unfold Addr.add
    split
    · simp_all <;> omega
    · simp_all <;> omega
  rw [hadd] at this
  exact this
theorem lvclone_any {A : Option Addr} {l : List Meta} {w : World} (hM : Mts w A l) (hf : ∀ ad, A = some ad → ∃ b o, ad = ⟨b, o, none⟩) (hl : l.length ≤ 100000) (c : Nat) :
    Calls Tryz.prog 72 #[.slice A l.length c] w fun e w' => ∃ v, e = .returned v ∧ w'.ownsRow w.heap.size 43 5 v l.length (mtl l) ∧ Kept w w' := by
  obtain ⟨i0, hi, hz0, hz1, hz2⟩ := info_parts mtInfo
  cases A with
  | none =>
    have he : l = [] := by
      cases l with
      | nil => rfl
      | cons x l => obtain ⟨b, o, e, _⟩ := hM 0 x rfl; cases e
    subst he
    refine (AnyE.slices_Clone_nil Tryz.cloneMeta _ c w).mono ?_
    rintro e w' ⟨rfl, rfl⟩
    exact ⟨_, rfl, World.ownsRow_nil _ _ _ _, Kept.refl _⟩
  | some ad =>
    obtain ⟨b, o, rfl⟩ := hf ad rfl
    refine (AnyE.slices_Clone Tryz.cloneMeta i0 zmtV 5 56 hi hz0 hz1 hz2 rfl (by decide) Tryz.sizeOf43 b o l.length c (mtl l) w (mtl_len l) (by unfold maxLen; omega) (by omega) (mts_news hM) (mtl_one l)).mono ?_
    rintro e w' ⟨v, rfl, hown, _, g⟩
    exact ⟨v, rfl, hown, g⟩
theorem lvlevel_any {w : World} {p nx lg sq : Nat} {T : Nat → Lvl} (h : IsV w p T nx lg sq) (k : Nat) (hk : k < 4) (hl : (T k).l.length ≤ 100000) :
    Calls Tryz.prog 33 #[.pointer (some ⟨p, 0, none⟩), .int .i64 (k : Nat)] w fun e w' => ∃ v, e = .returned v ∧ w'.ownsRow w.heap.size 43 5 v (T k).l.length (mtl (T k).l) ∧ Kept w w' := by
  obtain ⟨A, c, l, hTk⟩ : ∃ A c l, T k = ⟨A, c, l⟩ := ⟨_, _, _, rfl⟩
  have hM : Mts w A l := by have := h.tab.mts k hk; rw [hTk] at this; exact this
  have hf : ∀ ad, A = some ad → ∃ b o, ad = ⟨b, o, none⟩ := by have := h.flat k hk; rw [hTk] at this; exact this
  have hlen : l.length ≤ 100000 := by rw [hTk] at hl; exact hl
  have hc : w.cell? ⟨p, k, none⟩ = some (.slice A l.length c) := by
    have hk4 : k = 0 ∨ k = 1 ∨ k = 2 ∨ k = 3 := by omega
    have hv : (T k).v = .slice A l.length c := by rw [hTk]; rfl
    rw [← hv]
    rcases hk4 with rfl | rfl | rfl | rfl <;> exact mcell h.cells _ (by rfl)
  have HC := Lib.hid (lvclone_any hM hf hlen c)
  rw [hTk]
  clear hl hTk hM hf h
  have HI := Lib.hid (fun W => lvisl_any (k : Int) W)
  have d1 : (decide ((0 : Int) ≤ (k : Int)) && decide ((k : Int) < 4)) = true := by simp; omega
  rw [d1] at HI
  clear d1
  go_enter Tryz.func33, Tryz.ntmps33
  go_wp2_with fail
  refine (HI.out _).mono ?_
  rintro e w' ⟨rfl, rfl⟩
  go_wp2_with fail
  refine HC.out.mono ?_
  rintro e w1 ⟨v, rfl, hown, g⟩
  go_wp2_with fail
  go_ret
  exact ⟨v, rfl, hown, g⟩
theorem lvlevel_no {w : World} (p : Nat) (z : Int) (hz : ¬ (0 ≤ z ∧ z < 4)) :
    Calls Tryz.prog 33 #[.pointer (some ⟨p, 0, none⟩), .int .i64 z] w fun e w' => e = .returned (.slice none 0 0) ∧ w' = w := by
  have HI := Lib.hid (fun W => lvisl_any z W)
  have d1 : (decide ((0 : Int) ≤ z) && decide (z < 4)) = false := by
    rw [Bool.eq_false_iff]; simpa using fun h1 h2 => hz ⟨h1, h2⟩
  rw [d1] at HI
  clear d1
  go_enter Tryz.func33, Tryz.ntmps33
  go_wp2_with fail
  refine (HI.out _).mono ?_
  rintro e w' ⟨rfl, rfl⟩
  go_wp2_with fail
  go_ret
  exact ⟨rfl, rfl⟩
theorem lvmeet_any {w : World} {p nx lg sq : Nat} {T : Nat → Lvl} (h : IsV w p T nx lg sq) (k : Nat) (hk : k < 4) (hl : (T k).l.length ≤ 100000) (a b : List UInt8) :
    Calls Tryz.prog 22 #[.pointer (some ⟨p, 0, none⟩), .int .i64 (k : Nat), .string (bs a), .string (bs b)] w fun e w' => ∃ v, e = .returned v ∧ w'.ownsRow w.heap.size 43 5 v (meet (T k).l a b).length (mtl (meet (T k).l a b)) ∧ Kept w w' := by
  have c0 := mcell h.cells 0 (v := (T 0).v) (by rfl)
  have c1 := mcell h.cells 1 (v := (T 1).v) (by rfl)
  have c2 := mcell h.cells 2 (v := (T 2).v) (by rfl)
  have c3 := mcell h.cells 3 (v := (T 3).v) (by rfl)
  have HC := Lib.hid (lvmeeting_any h.tab k hk hl a b)
  unfold tbv spv at HC
  have HI := Lib.hid (fun W => lvisl_any (k : Int) W)
  have d1 : (decide ((0 : Int) ≤ (k : Int)) && decide ((k : Int) < 4)) = true := by simp; omega
  rw [d1] at HI
  generalize meet (T k).l a b = M at HC ⊢
  generalize (T 0).v = t0 at *
  generalize (T 1).v = t1 at *
  generalize (T 2).v = t2 at *
  generalize (T 3).v = t3 at *
  clear d1 h hl
  go_enter Tryz.func22, Tryz.ntmps22
  go_wp2_with fail
  refine (HI.out _).mono ?_
  rintro e w' ⟨rfl, rfl⟩
  go_wp2_with fail
  refine HC.out.mono ?_
  rintro e w1 ⟨v, rfl, hown, g⟩
  go_wp2_with fail
  go_ret
  exact ⟨v, rfl, hown, g⟩
theorem lvgave_any {w : World} {p nx lg sq : Nat} {T : Nat → Lvl} (h : IsV w p T nx lg sq) (x : Meta) :
    Calls Tryz.prog 42 #[.pointer (some ⟨p, 0, none⟩), mtv x] w fun e w' => e = .returned (.bool (decide (x.file < nx) && decide (x.seq ≤ sq))) ∧ Kept w w' := by
  have hp := mheap_lt h.cells
  have c4 := mcell h.cells 4 (v := .int .u64 (nx : Nat)) (by rfl)
  have c6 := mcell h.cells 6 (v := .int .u64 (sq : Nat)) (by rfl)
  clear h
  obtain ⟨f, z, a, b, s⟩ := x
  unfold mtv
  simp only
  by_cases h1 : f < nx
  · have d1 : decide ((f : Int) < (nx : Int)) = true := decide_eq_true (by omega)
    rw [show decide (f < nx) = true from decide_eq_true h1, Bool.true_and]
    go_enter Tryz.func42, Tryz.ntmps42
    go_wp2_with fail
    have g1 : Kept w (w.alloc (.cells #[.int .u64 (f : Nat), .int .i64 z, .string (bs a), .string (bs b), .int .u64 (s : Nat)] 43)) := (Kept.refl _).alloc _
    have n0 := malloc_new w (.cells #[.int .u64 (f : Nat), .int .i64 z, .string (bs a), .string (bs b), .int .u64 (s : Nat)] 43)
    have k4 := (kept_cell g1 (p := ⟨p, 4, none⟩) hp).trans c4
    have k6 := (kept_cell g1 (p := ⟨p, 6, none⟩) hp).trans c6
    have q0 := mcell n0 0 (v := .int .u64 (f : Nat)) (by rfl)
    have q4 := mcell n0 4 (v := .int .u64 (s : Nat)) (by rfl)
    have G1 := Lib.hid g1
    clear n0 c4 c6 g1
    generalize w.alloc (.cells #[.int .u64 (f : Nat), .int .i64 z, .string (bs a), .string (bs b), .int .u64 (s : Nat)] 43) = w2 at *
    go_quiet (fail)
    go_wp2_with fail
    go_ret
    exact ⟨by simp, kept_trans G1.out (kept_drewN _ _)⟩
  · have d1 : decide ((f : Int) < (nx : Int)) = false := decide_eq_false (by omega)
    rw [show decide (f < nx) = false from decide_eq_false h1, Bool.false_and]
    go_enter Tryz.func42, Tryz.ntmps42
    go_wp2_with fail
    have g1 : Kept w (w.alloc (.cells #[.int .u64 (f : Nat), .int .i64 z, .string (bs a), .string (bs b), .int .u64 (s : Nat)] 43)) := (Kept.refl _).alloc _
    have n0 := malloc_new w (.cells #[.int .u64 (f : Nat), .int .i64 z, .string (bs a), .string (bs b), .int .u64 (s : Nat)] 43)
    have k4 := (kept_cell g1 (p := ⟨p, 4, none⟩) hp).trans c4
    have k6 := (kept_cell g1 (p := ⟨p, 6, none⟩) hp).trans c6
    have q0 := mcell n0 0 (v := .int .u64 (f : Nat)) (by rfl)
    have q4 := mcell n0 4 (v := .int .u64 (s : Nat)) (by rfl)
    have G1 := Lib.hid g1
    clear n0 c4 c6 g1
    generalize w.alloc (.cells #[.int .u64 (f : Nat), .int .i64 z, .string (bs a), .string (bs b), .int .u64 (s : Nat)] 43) = w2 at *
    go_quiet (fail)
    go_wp2_with fail
    go_ret
    exact ⟨rfl, kept_trans G1.out (kept_drewN _ _)⟩
end Go.Proofs.YtnnmalpnjlnnlaaGreat
