/-
  Package col: which lock, write and leases bytes are.
-/
import Derived.Test.YtdmnmbomijnjeaaColEnc
namespace Go.Proofs.Ytdmnmbomijnjeaa
open Go.ChangeShapes Go.WideShapes Go.ChangeAt Go.RowKit
set_option linter.unusedVariables false
set_option maxRecDepth 100000
set_option maxHeartbeats 4000000
open Co
theorem clset {w : World} {b : Nat} {c : Array Value} {t : TypeId} {z : Nat × Nat} (h : w.heap[b]? = some (.cells c t z)) (j : Nat) (x : Value) : (w.setCell ⟨b, j, none⟩ x).heap[b]? = some (.cells (c.setIfInBounds j x) t z) := by
  simp [World.setCell, Array.getElem?_modify, h]
theorem clkset {w W : World} {b : Nat} (h : Kept w W) (hb : w.heap.size ≤ b) (j : Nat) (x : Value) : Kept w (W.setCell ⟨b, j, none⟩ x) := Below.setCell h (p := ⟨b, j, none⟩) hb x
theorem clbs_eq (a b : List UInt8) : ((bs a).toList == (bs b).toList) = (a == b) := by rw [clbs_list, clbs_list]
theorem clsameK_any (s : List UInt8) (l : Lk) (hp : l.p.length ≤ maxLen) (ha : l.a ≤ 18446744073709551615) (w : World) :
    Calls Try.prog 37 #[.string (bs s), lkv l, .func (.func 11) #[] #[]] w fun e w' => e = .returned (.tuple #[lkv (if (isK l && encK l == s) = true then l else zK), .int .i64 (if (isK l && encK l == s) = true then 0 else 2)]) ∧ Kept w w' := by
  have HM := Lib.hid (cllock_any l hp ha)
  have HBB := Lib.hid (show (isK l = false → bs (encKS l) = ⟨#[]⟩ ∧ encKC l = 2) ∧ (isK l = true → encKS l = encK l ∧ encKC l = 0) from by
    unfold encKS encKC; exact ⟨fun h => by rw [h]; exact ⟨rfl, rfl⟩, fun h => by rw [h]; exact ⟨rfl, rfl⟩⟩)
  have hq := clbs_eq (encK l) s
  have hE1 : ((isK l && encK l == s) = true) = ((isK l = true ∧ encK l = s)) := by simp
  obtain ⟨rV, hrV⟩ : ∃ v, v = lkv (if (isK l && encK l == s) = true then l else zK) := ⟨_, rfl⟩
  obtain ⟨rC, hrC⟩ : ∃ v : Int, v = (if (isK l && encK l == s) = true then 0 else 2) := ⟨_, rfl⟩
  rw [← hrV, ← hrC]
  have HG := Lib.hid (show isK l = true → encK l = s → rV = lkv l ∧ rC = 0 from fun h1 h2 => by
    rw [hrV, hrC, if_pos (hE1 ▸ ⟨h1, h2⟩), if_pos (hE1 ▸ ⟨h1, h2⟩)]; exact ⟨rfl, rfl⟩)
  have HN := Lib.hid (show ¬ (isK l = true ∧ encK l = s) → rV = lkv zK ∧ rC = 2 from fun h1 => by
    rw [hrV, hrC, if_neg (fun h => h1 (hE1 ▸ h)), if_neg (fun h => h1 (hE1 ▸ h))]; exact ⟨rfl, rfl⟩)
  clear hrV hrC hE1
  have HZ := Lib.hid (show lkv zK = .agg #[.string ⟨#[]⟩, .int .u64 0, .int .i64 0, .int .u64 0] from rfl)
  unfold lkv at *
  obtain ⟨p, st, k, a⟩ := l
  dsimp only at *
  generalize encKS ⟨p, st, k, a⟩ = aSt at *
  generalize encKC ⟨p, st, k, a⟩ = aCo at *
  generalize encK ⟨p, st, k, a⟩ = aEn at *
  generalize isK ⟨p, st, k, a⟩ = B at *
  generalize bs p = P at *
  have I0 := Lib.hid (KX.new w #[.string P, .int .u64 (st : Nat), .int .i64 k, .int .u64 (a : Nat)] 24)
  cases B with
  | false =>
    obtain ⟨e1, e2⟩ := HBB.out.1 rfl
    rw [e1, e2] at HM
    have HR := Lib.hid (show Ending.returned (.tuple #[.agg #[.string ⟨#[]⟩, .int .u64 0, .int .i64 0, .int .u64 0], .int .i64 2]) = .returned (.tuple #[rV, .int .i64 rC]) from by
      rw [(HN.out (fun h => by cases h.1)).1, (HN.out (fun h => by cases h.1)).2]; rfl)
    clear e1 e2 HBB hq HG HN
    go_enter Try.func37, Try.ntmps37
    go_wp2_with fail
    refine (HM.out _).mono ?_
    rintro e w1 ⟨rfl, g1⟩
    have h1 := clhp (clhp I0.out.bk ((Kept.refl _).alloc (.cells #[.string ⟨#[]⟩, .int .u64 0, .int .i64 0, .int .u64 0] 24))) g1
    have h2 := clhp (clnew (w.alloc (.cells #[.string P, .int .u64 (st : Nat), .int .i64 k, .int .u64 (a : Nat)] 24)) (.cells #[.string ⟨#[]⟩, .int .u64 0, .int .i64 0, .int .u64 0] 24)) g1
    rw [World.size_alloc] at h2
    have h3 := clhp h2 ((Kept.refl w1).alloc (.cells #[.string ⟨#[]⟩, .int .u64 0, .int .i64 0, .int .u64 0] 24))
    have K2 := Lib.hid (kept_trans (kept_trans (kept_trans I0.out.k ((Kept.refl _).alloc _)) g1) ((Kept.refl w1).alloc (.cells #[.string ⟨#[]⟩, .int .u64 0, .int .i64 0, .int .u64 0] 24)))
    have by0 := clcell h3 0 rfl; have bf0 := clsoft h3 0
    have by1 := clcell h3 1 rfl; have bf1 := clsoft h3 1
    have by2 := clcell h3 2 rfl; have bf2 := clsoft h3 2
    have by3 := clcell h3 3 rfl; have bf3 := clsoft h3 3
    have HB2 := Lib.hid h3
    clear g1 h1 h2 h3 HM I0
    go_wp2_with fail
    have hb9 := (clset (clset (clset (clset HB2.out 0 (.string ⟨#[]⟩)) 1 (.int .u64 0)) 2 (.int .i64 0)) 3 (.int .u64 0))
    have z0 := clcell (v := .string ⟨#[]⟩) hb9 0 rfl
    have z1 := clcell (v := .int .u64 0) hb9 1 rfl
    have z2 := clcell (v := .int .i64 0) hb9 2 rfl
    have z3 := clcell (v := .int .u64 0) hb9 3 rfl
    refine bodyPost_ret (v := .tuple #[.agg #[.string ⟨#[]⟩, .int .u64 0, .int .i64 0, .int .u64 0], .int .i64 2]) (by simp [results, Try.results37, go_sem, z0, z1, z2, z3]) rfl ⟨HR.out, ?_⟩
    exact (clkset (clkset (clkset (clkset K2.out (Nat.le_succ _) 0 _) (Nat.le_succ _) 1 _) (Nat.le_succ _) 2 _) (Nat.le_succ _) 3 _)
  | true =>
  obtain ⟨e1, e2⟩ := HBB.out.2 rfl
  rw [e1, e2] at HM
  by_cases hs : aEn = s
  · have d1 : ((bs aEn).toList == (bs s).toList) = true := by rw [hq]; simp [hs]
    have d2 : ((bs aEn).toList != (bs s).toList) = false := by rw [bne, d1]; rfl
    have HR := Lib.hid (show Ending.returned (.tuple #[.agg #[.string P, .int .u64 (st : Nat), .int .i64 k, .int .u64 (a : Nat)], .int .i64 0]) = .returned (.tuple #[rV, .int .i64 rC]) from by
      rw [(HG.out rfl hs).1, (HG.out rfl hs).2])
    generalize bs aEn = X1 at *
    generalize bs s = X2 at *
    clear e1 e2 HBB hq HG HN hs
    go_enter Try.func37, Try.ntmps37
    go_wp2_with fail
    refine (HM.out _).mono ?_
    rintro e w1 ⟨rfl, g1⟩
    have h1 := clhp (clhp I0.out.bk ((Kept.refl _).alloc (.cells #[.string ⟨#[]⟩, .int .u64 0, .int .i64 0, .int .u64 0] 24))) g1
    have h2 := clhp (clnew (w.alloc (.cells #[.string P, .int .u64 (st : Nat), .int .i64 k, .int .u64 (a : Nat)] 24)) (.cells #[.string ⟨#[]⟩, .int .u64 0, .int .i64 0, .int .u64 0] 24)) g1
    rw [World.size_alloc] at h2
    have K2 := Lib.hid (kept_trans (kept_trans I0.out.k ((Kept.refl _).alloc _)) g1)
    have ay0 := clcell h1 0 rfl; have af0 := clsoft h1 0
    have ay1 := clcell h1 1 rfl; have af1 := clsoft h1 1
    have ay2 := clcell h1 2 rfl; have af2 := clsoft h1 2
    have ay3 := clcell h1 3 rfl; have af3 := clsoft h1 3
    have by0 := clcell h2 0 rfl; have bf0 := clsoft h2 0
    have by1 := clcell h2 1 rfl; have bf1 := clsoft h2 1
    have by2 := clcell h2 2 rfl; have bf2 := clsoft h2 2
    have by3 := clcell h2 3 rfl; have bf3 := clsoft h2 3
    have HB2 := Lib.hid h2
    clear g1 h1 h2 HM I0
    go_wp2_with fail
    have hb9 := (clset (clset (clset (clset HB2.out 0 (.string P)) 1 (.int .u64 (st : Nat))) 2 (.int .i64 k)) 3 (.int .u64 (a : Nat)))
    have z0 := clcell (v := .string P) hb9 0 rfl
    have z1 := clcell (v := .int .u64 (st : Nat)) hb9 1 rfl
    have z2 := clcell (v := .int .i64 k) hb9 2 rfl
    have z3 := clcell (v := .int .u64 (a : Nat)) hb9 3 rfl
    refine bodyPost_ret (v := .tuple #[.agg #[.string P, .int .u64 (st : Nat), .int .i64 k, .int .u64 (a : Nat)], .int .i64 0]) (by simp [results, Try.results37, go_sem, z0, z1, z2, z3]) rfl ⟨HR.out, ?_⟩
    exact (clkset (clkset (clkset (clkset K2.out (Nat.le_succ _) 0 _) (Nat.le_succ _) 1 _) (Nat.le_succ _) 2 _) (Nat.le_succ _) 3 _)
  · have d1 : ((bs aEn).toList == (bs s).toList) = false := by rw [hq]; simp [hs]
    have d2 : ((bs aEn).toList != (bs s).toList) = true := by rw [bne, d1]; rfl
    have HR := Lib.hid (show Ending.returned (.tuple #[.agg #[.string ⟨#[]⟩, .int .u64 0, .int .i64 0, .int .u64 0], .int .i64 2]) = .returned (.tuple #[rV, .int .i64 rC]) from by
      rw [(HN.out (fun h => hs h.2)).1, (HN.out (fun h => hs h.2)).2]; rfl)
    generalize bs aEn = X1 at *
    generalize bs s = X2 at *
    clear e1 e2 HBB hq HG HN hs
    go_enter Try.func37, Try.ntmps37
    go_wp2_with fail
    refine (HM.out _).mono ?_
    rintro e w1 ⟨rfl, g1⟩
    have h1 := clhp (clhp I0.out.bk ((Kept.refl _).alloc (.cells #[.string ⟨#[]⟩, .int .u64 0, .int .i64 0, .int .u64 0] 24))) g1
    have h2 := clhp (clnew (w.alloc (.cells #[.string P, .int .u64 (st : Nat), .int .i64 k, .int .u64 (a : Nat)] 24)) (.cells #[.string ⟨#[]⟩, .int .u64 0, .int .i64 0, .int .u64 0] 24)) g1
    rw [World.size_alloc] at h2
    have h3 := clhp h2 ((Kept.refl w1).alloc (.cells #[.string ⟨#[]⟩, .int .u64 0, .int .i64 0, .int .u64 0] 24))
    have K2 := Lib.hid (kept_trans (kept_trans (kept_trans I0.out.k ((Kept.refl _).alloc _)) g1) ((Kept.refl w1).alloc (.cells #[.string ⟨#[]⟩, .int .u64 0, .int .i64 0, .int .u64 0] 24)))
    have by0 := clcell h3 0 rfl; have bf0 := clsoft h3 0
    have by1 := clcell h3 1 rfl; have bf1 := clsoft h3 1
    have by2 := clcell h3 2 rfl; have bf2 := clsoft h3 2
    have by3 := clcell h3 3 rfl; have bf3 := clsoft h3 3
    have HB2 := Lib.hid h3
    clear g1 h1 h2 h3 HM I0
    go_wp2_with fail
    have hb9 := (clset (clset (clset (clset HB2.out 0 (.string ⟨#[]⟩)) 1 (.int .u64 0)) 2 (.int .i64 0)) 3 (.int .u64 0))
    have z0 := clcell (v := .string ⟨#[]⟩) hb9 0 rfl
    have z1 := clcell (v := .int .u64 0) hb9 1 rfl
    have z2 := clcell (v := .int .i64 0) hb9 2 rfl
    have z3 := clcell (v := .int .u64 0) hb9 3 rfl
    refine bodyPost_ret (v := .tuple #[.agg #[.string ⟨#[]⟩, .int .u64 0, .int .i64 0, .int .u64 0], .int .i64 2]) (by simp [results, Try.results37, go_sem, z0, z1, z2, z3]) rfl ⟨HR.out, ?_⟩
    exact (clkset (clkset (clkset (clkset K2.out (Nat.le_succ _) 0 _) (Nat.le_succ _) 1 _) (Nat.le_succ _) 2 _) (Nat.le_succ _) 3 _)
theorem clsameW_any (s : List UInt8) (l : Wr) (w : World) :
    Calls Try.prog 39 #[.string (bs s), wrv l, .func (.func 13) #[] #[]] w fun e w' => e = .returned (.tuple #[wrv (if (isW l && encW l == s) = true then l else zW), .int .i64 (if (isW l && encW l == s) = true then 0 else 2)]) ∧ Kept w w' := by
  have HM := Lib.hid (clwrite_any l)
  have HBB := Lib.hid (show (isW l = false → bs (encWS l) = ⟨#[]⟩ ∧ encWC l = 2) ∧ (isW l = true → encWS l = encW l ∧ encWC l = 0) from by
    unfold encWS encWC; exact ⟨fun h => by rw [h]; exact ⟨rfl, rfl⟩, fun h => by rw [h]; exact ⟨rfl, rfl⟩⟩)
  have hq := clbs_eq (encW l) s
  have hE1 : ((isW l && encW l == s) = true) = ((isW l = true ∧ encW l = s)) := by simp
  obtain ⟨rV, hrV⟩ : ∃ v, v = wrv (if (isW l && encW l == s) = true then l else zW) := ⟨_, rfl⟩
  obtain ⟨rC, hrC⟩ : ∃ v : Int, v = (if (isW l && encW l == s) = true then 0 else 2) := ⟨_, rfl⟩
  rw [← hrV, ← hrC]
  have HG := Lib.hid (show isW l = true → encW l = s → rV = wrv l ∧ rC = 0 from fun h1 h2 => by
    rw [hrV, hrC, if_pos (hE1 ▸ ⟨h1, h2⟩), if_pos (hE1 ▸ ⟨h1, h2⟩)]; exact ⟨rfl, rfl⟩)
  have HN := Lib.hid (show ¬ (isW l = true ∧ encW l = s) → rV = wrv zW ∧ rC = 2 from fun h1 => by
    rw [hrV, hrC, if_neg (fun h => h1 (hE1 ▸ h)), if_neg (fun h => h1 (hE1 ▸ h))]; exact ⟨rfl, rfl⟩)
  clear hrV hrC hE1
  have HZ := Lib.hid (show wrv zW = .agg #[.int .u64 0, .int .i64 0] from rfl)
  unfold wrv at *
  obtain ⟨st, k⟩ := l
  dsimp only at *
  generalize encWS ⟨st, k⟩ = aSt at *
  generalize encWC ⟨st, k⟩ = aCo at *
  generalize encW ⟨st, k⟩ = aEn at *
  generalize isW ⟨st, k⟩ = B at *
  have I0 := Lib.hid (KX.new w #[.int .u64 (st : Nat), .int .i64 k] 26)
  cases B with
  | false =>
    obtain ⟨e1, e2⟩ := HBB.out.1 rfl
    rw [e1, e2] at HM
    have HR := Lib.hid (show Ending.returned (.tuple #[.agg #[.int .u64 0, .int .i64 0], .int .i64 2]) = .returned (.tuple #[rV, .int .i64 rC]) from by
      rw [(HN.out (fun h => by cases h.1)).1, (HN.out (fun h => by cases h.1)).2]; rfl)
    clear e1 e2 HBB hq HG HN
    go_enter Try.func39, Try.ntmps39
    go_wp2_with fail
    refine (HM.out _).mono ?_
    rintro e w1 ⟨rfl, g1⟩
    have h1 := clhp (clhp I0.out.bk ((Kept.refl _).alloc (.cells #[.int .u64 0, .int .i64 0] 26))) g1
    have h2 := clhp (clnew (w.alloc (.cells #[.int .u64 (st : Nat), .int .i64 k] 26)) (.cells #[.int .u64 0, .int .i64 0] 26)) g1
    rw [World.size_alloc] at h2
    have h3 := clhp h2 ((Kept.refl w1).alloc (.cells #[.int .u64 0, .int .i64 0] 26))
    have K2 := Lib.hid (kept_trans (kept_trans (kept_trans I0.out.k ((Kept.refl _).alloc _)) g1) ((Kept.refl w1).alloc (.cells #[.int .u64 0, .int .i64 0] 26)))
    have by0 := clcell h3 0 rfl; have bf0 := clsoft h3 0
    have by1 := clcell h3 1 rfl; have bf1 := clsoft h3 1
    have HB2 := Lib.hid h3
    clear g1 h1 h2 h3 HM I0
    go_wp2_with fail
    have hb9 := (clset (clset HB2.out 0 (.int .u64 0)) 1 (.int .i64 0))
    have z0 := clcell (v := .int .u64 0) hb9 0 rfl
    have z1 := clcell (v := .int .i64 0) hb9 1 rfl
    refine bodyPost_ret (v := .tuple #[.agg #[.int .u64 0, .int .i64 0], .int .i64 2]) (by simp [results, Try.results39, go_sem, z0, z1]) rfl ⟨HR.out, ?_⟩
    exact (clkset (clkset K2.out (Nat.le_succ _) 0 _) (Nat.le_succ _) 1 _)
  | true =>
  obtain ⟨e1, e2⟩ := HBB.out.2 rfl
  rw [e1, e2] at HM
  by_cases hs : aEn = s
  · have d1 : ((bs aEn).toList == (bs s).toList) = true := by rw [hq]; simp [hs]
    have d2 : ((bs aEn).toList != (bs s).toList) = false := by rw [bne, d1]; rfl
    have HR := Lib.hid (show Ending.returned (.tuple #[.agg #[.int .u64 (st : Nat), .int .i64 k], .int .i64 0]) = .returned (.tuple #[rV, .int .i64 rC]) from by
      rw [(HG.out rfl hs).1, (HG.out rfl hs).2])
    generalize bs aEn = X1 at *
    generalize bs s = X2 at *
    clear e1 e2 HBB hq HG HN hs
    go_enter Try.func39, Try.ntmps39
    go_wp2_with fail
    refine (HM.out _).mono ?_
    rintro e w1 ⟨rfl, g1⟩
    have h1 := clhp (clhp I0.out.bk ((Kept.refl _).alloc (.cells #[.int .u64 0, .int .i64 0] 26))) g1
    have h2 := clhp (clnew (w.alloc (.cells #[.int .u64 (st : Nat), .int .i64 k] 26)) (.cells #[.int .u64 0, .int .i64 0] 26)) g1
    rw [World.size_alloc] at h2
    have K2 := Lib.hid (kept_trans (kept_trans I0.out.k ((Kept.refl _).alloc _)) g1)
    have ay0 := clcell h1 0 rfl; have af0 := clsoft h1 0
    have ay1 := clcell h1 1 rfl; have af1 := clsoft h1 1
    have by0 := clcell h2 0 rfl; have bf0 := clsoft h2 0
    have by1 := clcell h2 1 rfl; have bf1 := clsoft h2 1
    have HB2 := Lib.hid h2
    clear g1 h1 h2 HM I0
    go_wp2_with fail
    have hb9 := (clset (clset HB2.out 0 (.int .u64 (st : Nat))) 1 (.int .i64 k))
    have z0 := clcell (v := .int .u64 (st : Nat)) hb9 0 rfl
    have z1 := clcell (v := .int .i64 k) hb9 1 rfl
    refine bodyPost_ret (v := .tuple #[.agg #[.int .u64 (st : Nat), .int .i64 k], .int .i64 0]) (by simp [results, Try.results39, go_sem, z0, z1]) rfl ⟨HR.out, ?_⟩
    exact (clkset (clkset K2.out (Nat.le_succ _) 0 _) (Nat.le_succ _) 1 _)
  · have d1 : ((bs aEn).toList == (bs s).toList) = false := by rw [hq]; simp [hs]
    have d2 : ((bs aEn).toList != (bs s).toList) = true := by rw [bne, d1]; rfl
    have HR := Lib.hid (show Ending.returned (.tuple #[.agg #[.int .u64 0, .int .i64 0], .int .i64 2]) = .returned (.tuple #[rV, .int .i64 rC]) from by
      rw [(HN.out (fun h => hs h.2)).1, (HN.out (fun h => hs h.2)).2]; rfl)
    generalize bs aEn = X1 at *
    generalize bs s = X2 at *
    clear e1 e2 HBB hq HG HN hs
    go_enter Try.func39, Try.ntmps39
    go_wp2_with fail
    refine (HM.out _).mono ?_
    rintro e w1 ⟨rfl, g1⟩
    have h1 := clhp (clhp I0.out.bk ((Kept.refl _).alloc (.cells #[.int .u64 0, .int .i64 0] 26))) g1
    have h2 := clhp (clnew (w.alloc (.cells #[.int .u64 (st : Nat), .int .i64 k] 26)) (.cells #[.int .u64 0, .int .i64 0] 26)) g1
    rw [World.size_alloc] at h2
    have h3 := clhp h2 ((Kept.refl w1).alloc (.cells #[.int .u64 0, .int .i64 0] 26))
    have K2 := Lib.hid (kept_trans (kept_trans (kept_trans I0.out.k ((Kept.refl _).alloc _)) g1) ((Kept.refl w1).alloc (.cells #[.int .u64 0, .int .i64 0] 26)))
    have by0 := clcell h3 0 rfl; have bf0 := clsoft h3 0
    have by1 := clcell h3 1 rfl; have bf1 := clsoft h3 1
    have HB2 := Lib.hid h3
    clear g1 h1 h2 h3 HM I0
    go_wp2_with fail
    have hb9 := (clset (clset HB2.out 0 (.int .u64 0)) 1 (.int .i64 0))
    have z0 := clcell (v := .int .u64 0) hb9 0 rfl
    have z1 := clcell (v := .int .i64 0) hb9 1 rfl
    refine bodyPost_ret (v := .tuple #[.agg #[.int .u64 0, .int .i64 0], .int .i64 2]) (by simp [results, Try.results39, go_sem, z0, z1]) rfl ⟨HR.out, ?_⟩
    exact (clkset (clkset K2.out (Nat.le_succ _) 0 _) (Nat.le_succ _) 1 _)
theorem clsameL_any (s : List UInt8) {A : Option Addr} {l : List Ls} {w : World} (hA : Lss w A l) (hl : l.length ≤ maxLen) (c : Nat) :
    Calls Try.prog 40 #[.string (bs s), .slice A l.length c, .func (.func 15) #[] #[]] w fun e w' => Kept w w' ∧ ((isL l && encL l == s) = true → e = .returned (.tuple #[.slice A l.length c, .int .i64 0])) ∧ ((isL l && encL l == s) = false → e = .returned (.tuple #[.slice none 0 0, .int .i64 2])) := by
  have HM := Lib.hid (clleases_any hA hl c)
  have HBB := Lib.hid (show (isL l = false → bs (encLS l) = ⟨#[]⟩ ∧ encLC l = 2) ∧ (isL l = true → encLS l = encL l ∧ encLC l = 0) from by
    unfold encLS encLC; exact ⟨fun h => by rw [h]; exact ⟨rfl, rfl⟩, fun h => by rw [h]; exact ⟨rfl, rfl⟩⟩)
  have hq := clbs_eq (encL l) s
  generalize encLS l = aSt at *
  generalize encLC l = aCo at *
  generalize encL l = aEn at *
  generalize isL l = B at *
  clear hA hl
  cases B with
  | false =>
    obtain ⟨e1, e2⟩ := HBB.out.1 rfl
    rw [e1, e2] at HM
    clear e1 e2 HBB hq
    go_enter Try.func40, Try.ntmps40
    go_wp2_with fail
    refine HM.out.mono ?_
    rintro e w1 ⟨rfl, g1⟩
    go_wp2_with fail
    go_ret2
    exact ⟨g1, (fun h => by cases h), fun _ => rfl⟩
  | true =>
  obtain ⟨e1, e2⟩ := HBB.out.2 rfl
  rw [e1, e2] at HM
  by_cases hs : aEn = s
  · have d1 : ((bs aEn).toList == (bs s).toList) = true := by rw [hq]; simp [hs]
    have d2 : ((bs aEn).toList != (bs s).toList) = false := by rw [bne, d1]; rfl
    have HR := Lib.hid (show (true && aEn == s) = true from by simp [hs])
    clear e1 e2 HBB hq hs
    generalize hX1 : bs aEn = X1 at *
    generalize hX2 : bs s = X2 at *
    clear hX1 hX2
    go_enter Try.func40, Try.ntmps40
    go_wp2_with fail
    refine HM.out.mono ?_
    rintro e w1 ⟨rfl, g1⟩
    go_wp2_with fail
    go_ret2
    exact ⟨g1, (fun _ => rfl), fun h => by rw [HR.out] at h; cases h⟩
  · have d1 : ((bs aEn).toList == (bs s).toList) = false := by rw [hq]; simp [hs]
    have d2 : ((bs aEn).toList != (bs s).toList) = true := by rw [bne, d1]; rfl
    have HR := Lib.hid (show (true && aEn == s) = false from by simp [hs])
    clear e1 e2 HBB hq hs
    generalize hX1 : bs aEn = X1 at *
    generalize hX2 : bs s = X2 at *
    clear hX1 hX2
    go_enter Try.func40, Try.ntmps40
    go_wp2_with fail
    refine HM.out.mono ?_
    rintro e w1 ⟨rfl, g1⟩
    go_wp2_with fail
    go_ret2
    exact ⟨g1, (fun h => by rw [HR.out] at h; cases h), fun _ => rfl⟩
theorem tail_le (s : List UInt8) : (s.drop 1).length ≤ s.length := by rw [List.length_drop]; omega
theorem clunlock_any (s : List UInt8) (hs : s.length ≤ 16777216) (w : World) :
    Calls Try.prog 18 #[.string (bs s)] w fun e w' => e = .returned (.tuple #[lkv (dK s), .int .i64 (dKC s)]) ∧ Kept w w' := by
  have hT := cltk_any s (by unfold maxLen; omega)
  have l0 := tail_le s
  have l1 := Co.takeR_le (s.drop 1)
  have l2 := Co.takeR_le (Nm.takeR (s.drop 1))
  have h1 := take_any (bs (s.drop 1)) (by rw [clbs_size]; unfold maxLen; omega)
  have h2 := take_any (bs (Nm.takeR (s.drop 1))) (by rw [clbs_size]; unfold maxLen; omega)
  rw [bs_data] at h1 h2
  have n1 := Co.takeN_lt (s.drop 1)
  have n2 := Co.takeN_lt (Nm.takeR (s.drop 1))
  have hS := clsameK_any s (rdK s) (show (Nm.takeR (Nm.takeR (s.drop 1))).length ≤ maxLen by unfold maxLen; omega) (show Nm.takeN (Nm.takeR (s.drop 1)) ≤ 18446744073709551615 by omega)
  have HR := Lib.hid (show lkv (if (isK (rdK s) && encK (rdK s) == s) = true then rdK s else zK) = lkv (dK s) ∧ (if (isK (rdK s) && encK (rdK s) == s) = true then (0 : Int) else 2) = dKC s from by unfold dK dKC bK; exact ⟨rfl, rfl⟩)
  rw [HR.out.1, HR.out.2] at hS
  have hv : lkv (rdK s) = .agg #[.string (bs (Nm.takeR (Nm.takeR (s.drop 1)))), .int .u64 (Nm.takeN (s.drop 1) : Nat), .int .i64 ((kd s : Nat) : Int), .int .u64 (Nm.takeN (Nm.takeR (s.drop 1)) : Nat)] := rfl
  rw [hv] at hS
  obtain ⟨P, z0, z1, z2, hP⟩ : ∃ P z0 z1 z2, lkv (dK s) = .agg #[.string P, .int .u64 z0, .int .i64 z1, .int .u64 z2] := ⟨_, _, _, _, rfl⟩
  rw [hP] at hS ⊢
  clear hv n1 n2 l0 l1 l2 hP HR
  generalize dKC s = rC at *
  generalize Nm.takeR (Nm.takeR (s.drop 1)) = R2 at *
  generalize Nm.takeN (Nm.takeR (s.drop 1)) = N2 at *
  generalize Nm.takeB (Nm.takeR (s.drop 1)) = B2 at *
  generalize Nm.takeR (s.drop 1) = R1 at *
  generalize Nm.takeN (s.drop 1) = N1 at *
  generalize Nm.takeB (s.drop 1) = B1 at *
  generalize s.drop 1 = R0 at *
  generalize kd s = k0 at *
  generalize bs s = S at *
  have HT := Lib.hid hT; have H1 := Lib.hid h1; have H2 := Lib.hid h2; have HS := Lib.hid hS
  have I0 := Lib.hid (KX.new w #[.string ⟨#[]⟩, .int .u64 0, .int .i64 0, .int .u64 0] 24)
  clear hT h1 h2 hS
  go_enter Try.func18, Try.ntmps18
  go_wp2_with fail
  refine (HT.out _).mono ?_
  rintro e w1 ⟨rfl, g1⟩
  have I1 := Lib.hid (I0.out.kept g1)
  clear I0 g1
  go_wp2_with fail
  refine (H1.out _).mono ?_
  rintro e w2 ⟨rfl, g1⟩
  have I2 := Lib.hid (I1.out.kept g1)
  clear I1 g1
  go_wp2_with fail
  refine (H2.out _).mono ?_
  rintro e w3 ⟨rfl, g1⟩
  have I3 := Lib.hid (I2.out.kept g1)
  clear I2 g1
  go_wp2_with fail
  refine (HS.out _).mono ?_
  rintro e w4 ⟨rfl, g1⟩
  have I4 := Lib.hid (I3.out.kept g1)
  have h2 := I4.out.bk
  have y0 := clcell h2 0 rfl; have y1 := clcell h2 1 rfl; have y2 := clcell h2 2 rfl; have y3 := clcell h2 3 rfl
  have f0 := clsoft h2 0; have f1 := clsoft h2 1; have f2 := clsoft h2 2; have f3 := clsoft h2 3
  clear h2 I3 g1
  go_wp2_with fail
  have hb9 := clset (clset (clset (clset I4.out.bk 0 (.string P)) 1 (.int .u64 z0)) 2 (.int .i64 z1)) 3 (.int .u64 z2)
  have x0 := clcell (v := .string P) hb9 0 rfl
  have x1 := clcell (v := .int .u64 z0) hb9 1 rfl
  have x2 := clcell (v := .int .i64 z1) hb9 2 rfl
  have x3 := clcell (v := .int .u64 z2) hb9 3 rfl
  refine bodyPost_ret (v := .tuple #[.agg #[.string P, .int .u64 z0, .int .i64 z1, .int .u64 z2], .int .i64 rC]) (by simp [results, Try.results18, go_sem, x0, x1, x2, x3]) rfl ⟨rfl, ?_⟩
  exact clkset (clkset (clkset (clkset I4.out.k (Nat.le_refl _) 0 _) (Nat.le_refl _) 1 _) (Nat.le_refl _) 2 _) (Nat.le_refl _) 3 _
theorem clunwrite_any (s : List UInt8) (hs : s.length ≤ 16777216) (w : World) :
    Calls Try.prog 20 #[.string (bs s)] w fun e w' => e = .returned (.tuple #[wrv (dW s), .int .i64 (dWC s)]) ∧ Kept w w' := by
  have hT := cltk_any s (by unfold maxLen; omega)
  have l0 := tail_le s
  have h1 := take_any (bs (s.drop 1)) (by rw [clbs_size]; unfold maxLen; omega)
  rw [bs_data] at h1
  have hS := clsameW_any s (rdW s)
  have HR := Lib.hid (show wrv (if (isW (rdW s) && encW (rdW s) == s) = true then rdW s else zW) = wrv (dW s) ∧ (if (isW (rdW s) && encW (rdW s) == s) = true then (0 : Int) else 2) = dWC s from by unfold dW dWC bW; exact ⟨rfl, rfl⟩)
  rw [HR.out.1, HR.out.2] at hS
  have hv : wrv (rdW s) = .agg #[.int .u64 (Nm.takeN (s.drop 1) : Nat), .int .i64 ((kd s : Nat) : Int)] := rfl
  rw [hv] at hS
  obtain ⟨z0, z1, hP⟩ : ∃ z0 z1, wrv (dW s) = .agg #[.int .u64 z0, .int .i64 z1] := ⟨_, _, rfl⟩
  rw [hP] at hS ⊢
  clear hv l0 hP HR
  generalize dWC s = rC at *
  generalize Nm.takeR (s.drop 1) = R1 at *
  generalize Nm.takeN (s.drop 1) = N1 at *
  generalize Nm.takeB (s.drop 1) = B1 at *
  generalize s.drop 1 = R0 at *
  generalize kd s = k0 at *
  generalize bs s = S at *
  have HT := Lib.hid hT; have H1 := Lib.hid h1; have HS := Lib.hid hS
  have I0 := Lib.hid (KX.new w #[.int .u64 0, .int .i64 0] 26)
  clear hT h1 hS
  go_enter Try.func20, Try.ntmps20
  go_wp2_with fail
  refine (HT.out _).mono ?_
  rintro e w1 ⟨rfl, g1⟩
  have I1 := Lib.hid (I0.out.kept g1)
  clear I0 g1
  go_wp2_with fail
  refine (H1.out _).mono ?_
  rintro e w2 ⟨rfl, g1⟩
  have I3 := Lib.hid (I1.out.kept g1)
  clear I1 g1
  go_wp2_with fail
  refine (HS.out _).mono ?_
  rintro e w4 ⟨rfl, g1⟩
  have I4 := Lib.hid (I3.out.kept g1)
  have h2 := I4.out.bk
  have y0 := clcell h2 0 rfl; have y1 := clcell h2 1 rfl
  have f0 := clsoft h2 0; have f1 := clsoft h2 1
  clear h2 I3 g1
  go_wp2_with fail
  have hb9 := clset (clset I4.out.bk 0 (.int .u64 z0)) 1 (.int .i64 z1)
  have x0 := clcell (v := .int .u64 z0) hb9 0 rfl
  have x1 := clcell (v := .int .i64 z1) hb9 1 rfl
  refine bodyPost_ret (v := .tuple #[.agg #[.int .u64 z0, .int .i64 z1], .int .i64 rC]) (by simp [results, Try.results20, go_sem, x0, x1]) rfl ⟨rfl, ?_⟩
  exact clkset (clkset I4.out.k (Nat.le_refl _) 0 _) (Nat.le_refl _) 1 _
theorem clnew3 (w : World) (x y z : Value) (t : TypeId) (bl : Nat) (hb : bl = w.heap.size) : ∀ j u, [x, y, z][j]? = some u → (w.alloc (.cells #[x, y, z] t)).cell? ((⟨bl, 0, none⟩ : Addr).add j) = some u := by
  subst hb
  intro j u hj
  rw [cladd_at, Nat.zero_add]
  exact clcell (clnew _ _) j (by simpa using hj)
def slen : Value → Nat
  | .slice _ n _ => n
  | _ => 0
theorem rd_step {s R : List UInt8} {M : List Ls} {n : Nat} (hn : M.length = n) (h : rdL s = M ++ rdA (5 - n) R) (h5 : n < 5) (hR : R ≠ []) : rdL s = (M ++ [rd1 R]) ++ rdA (5 - (n + 1)) (rst R) := by
  obtain ⟨f, hf⟩ : ∃ f, 5 - n = f + 1 := ⟨4 - n, by omega⟩
  rw [h, hf, rdA, if_neg hR, show 5 - (n + 1) = f by omega]
  simp
theorem rd_done {s R : List UInt8} {M : List Ls} {n : Nat} (h : rdL s = M ++ rdA (5 - n) R) (hd : R = [] ∨ n = 5) : M = rdL s := by
  rw [h]
  rcases hd with rfl | rfl
  · have : rdA (5 - n) [] = [] := by cases 5 - n <;> simp [rdA]
    rw [this, List.append_nil]
  · simp [rdA]
theorem clunlease_any (s : List UInt8) (hs : s.length ≤ 16777216) (w : World) :
    Calls Try.prog 22 #[.string (bs s)] w fun e w' => ∃ A c, e = .returned (.tuple #[.slice A (dL s).length c, .int .i64 (dLC s)]) ∧ Lss w' A (dL s) ∧ (dL s).length ≤ c ∧ c ≤ maxLen ∧ Kept w w' := by
  obtain ⟨i0, hi, hz0, hz1, hz2⟩ := info_parts lsInfo
  have HI := Lib.hid hi; have HZ0 := Lib.hid hz0; have HZ1 := Lib.hid hz1; have HZ2 := Lib.hid hz2
  have HD := Lib.hid (show ((isL (rdL s) && encL (rdL s) == s) = true → dL s = rdL s ∧ dLC s = 0) ∧ ((isL (rdL s) && encL (rdL s) == s) = false → dL s = [] ∧ dLC s = 2) from by
    have e : (isL (rdL s) && encL (rdL s) == s) = bL s := rfl
    rw [e]
    unfold dL dLC
    exact ⟨fun h => by rw [if_pos h, if_pos h]; exact ⟨rfl, rfl⟩, fun h => by rw [h]; exact ⟨rfl, rfl⟩⟩)
  generalize dL s = rL at *
  generalize dLC s = rC at *
  clear hi hz0 hz1 hz2
  go_enter Try.func22, Try.ntmps22
  go_wp2_with fail
  go_loopw [4, 5] (fun v r wr => ∃ (M : List Ls) (R : List UInt8) (n : Nat) (A : Option Addr) (c : Nat), n ≤ 5 ∧ M.length = n ∧ v = .slice A n c ∧ r = .string (bs R) ∧ Hid (wr.ownsRow w.heap.size 51 3 (.slice A n c) n (lsl M)) ∧ Hid (rdL s = M ++ rdA (5 - n) R) ∧ R.length ≤ s.length ∧ Hid (Kept w wr)) (fun v _ _ => 5 - slen v)
  case atStart => exact ⟨[], s, 0, none, 0, by omega, rfl, rfl, rfl, Lib.hid (World.ownsRow_nil _ _ _ _), Lib.hid rfl, Nat.le_refl _, Lib.hid (Kept.refl _)⟩
  case round =>
    obtain ⟨M, R, n, A, c, hn5, hM, rfl, rfl, HOWN, HRD, hRl, HK⟩ := hrel
    by_cases hlt : R ≠ [] ∧ n < 5
    · obtain ⟨hR, h5⟩ := hlt
      have d1 : ((bs R).toList == []) = false := by
        rw [clbs_list]; cases R with
        | nil => exact absurd rfl hR
        | cons _ _ => rfl
      have d1' : ((bs R).toList != []) = true := by rw [bne, d1]; rfl
      have d2 : decide ((n : Int) < 5) = true := decide_eq_true (by omega)
      have l1 := Co.takeR_le R
      have l2 := Co.takeR_le (Nm.takeR R)
      have l3 := Co.takeR_le (Nm.takeR (Nm.takeR R))
      have h1 := take_any (bs R) (by rw [clbs_size]; unfold maxLen; omega)
      have h2 := take_any (bs (Nm.takeR R)) (by rw [clbs_size]; unfold maxLen; omega)
      have h3 := take_any (bs (Nm.takeR (Nm.takeR R))) (by rw [clbs_size]; unfold maxLen; omega)
      rw [bs_data] at h1 h2 h3
      have HRS := Lib.hid (rd_step hM HRD.out h5 hR)
      have HQ := Lib.hid (show lsl (M ++ [rd1 R]) = lsl M ++ [.int .u64 (Nm.takeN R : Nat), .int .u64 (Nm.takeN (Nm.takeR R) : Nat), .int .u64 (Nm.takeN (Nm.takeR (Nm.takeR R)) : Nat)] from by rw [lsl_app, lsl_one]; rfl)
      have HLN := Lib.hid (show (M ++ [rd1 R]).length = n + 1 from by rw [List.length_append, hM]; rfl)
      have HL3 := Lib.hid (show (rst R).length ≤ s.length from by unfold rst; omega)
      have HRR := Lib.hid (show Nm.takeR (Nm.takeR (Nm.takeR R)) = rst R from rfl)
      rw [HRR.out] at h3
      generalize rst R = R3 at *
      generalize M ++ [rd1 R] = M' at *
      generalize Nm.takeN (Nm.takeR (Nm.takeR R)) = N3 at *
      generalize Nm.takeB (Nm.takeR (Nm.takeR R)) = B3 at *
      generalize Nm.takeR (Nm.takeR R) = R2 at *
      generalize Nm.takeN (Nm.takeR R) = N2 at *
      generalize Nm.takeB (Nm.takeR R) = B2 at *
      generalize Nm.takeR R = R1 at *
      generalize Nm.takeN R = N1 at *
      generalize Nm.takeB R = B1 at *
      generalize bs R = SR at *
      have H1 := Lib.hid h1; have H2 := Lib.hid h2; have H3 := Lib.hid h3
      clear h1 h2 h3 l1 l2 l3 hR HRR hRl HRD
      go_wp2_with fail
      refine (H1.out _).mono ?_
      rintro e w1 ⟨rfl, g1⟩
      have K1 := Lib.hid (kept_trans HK.out g1)
      have O1 := Lib.hid (own_kept HOWN.out g1)
      clear g1
      go_wp2_with fail
      refine (H2.out _).mono ?_
      rintro e w2 ⟨rfl, g1⟩
      have K2 := Lib.hid (kept_trans K1.out g1)
      have O2 := Lib.hid (own_kept O1.out g1)
      clear g1
      go_wp2_with fail
      refine (H3.out _).mono ?_
      rintro e w3 ⟨rfl, g1⟩
      have K3 := Lib.hid (kept_trans K2.out g1)
      have O3 := Lib.hid (own_kept O2.out g1)
      clear g1
      go_wp2_with (at_builtin; refine wpList_append_own _ rfl _ _ 27 rfl w.heap.size 51 i0 zlsV 3 24 Try.underlying27 HI.out HZ0.out HZ1.out HZ2.out rfl (by decide) _ n (lsl M) rfl (O3.out.alloc _) ⟨w3.heap.size, 0, none⟩ 1 1 [.int .u64 (N1 : Nat), .int .u64 (N2 : Nat), .int .u64 (N3 : Nat)] rfl rfl (clnew3 _ _ _ _ _ _ rfl) (by simp [Value.oneCell']) (by unfold maxLen; omega) (by omega) (by rw [World.size_alloc]; have := K3.out.size; omega) ?_)
      intro v' w4 hown2 hg _
      have K4 := Lib.hid (show Kept w w4 from Below.grown (K3.out.alloc _) hg (by rw [World.size_alloc]; have := K3.out.size; omega) (fun b hb => (O3.out.lt b hb).1))
      rw [← HQ.out] at hown2
      obtain ⟨A2, c2, rfl, hl2, _⟩ := lss_own hown2
      rw [HLN.out] at hown2 ⊢
      have O4 := Lib.hid hown2
      clear hown2 hg
      go_wp2_with fail
      go_roundw
      case rel => exact ⟨M', R3, n + 1, A2, c2, by omega, HLN.out, rfl, rfl, O4, HRS, HL3.out, K4⟩
      case measure => simp [slen]; omega
    · have hdone : R = [] ∨ n = 5 := by
        by_cases hR : R = []
        · exact .inl hR
        · exact .inr (Nat.le_antisymm hn5 (Nat.le_of_not_lt fun h => hlt ⟨hR, h⟩))
      have HMD := Lib.hid (rd_done HRD.out hdone)
      obtain ⟨A', c', hsl, hnl, hls⟩ := lss_own HOWN.out
      obtain ⟨rfl, rfl⟩ : A' = A ∧ c' = c := by
        injection hsl with q1 q2 q3; exact ⟨q1.symm, q3.symm⟩
      have HS := Lib.hid (fun W (hW : Kept wr W) => clsameL_any s (hls.lss.kept hW) (by unfold maxLen; omega) c')
      have HLS := Lib.hid hls
      rw [HMD.out] at HS HLS
      have HLR := Lib.hid (show (rdL s).length = n from by rw [← HMD.out, hM])
      rw [HLR.out] at HS
      have HCP := Lib.hid (show (rdL s).length ≤ c' ∧ c' ≤ maxLen from ⟨HLS.out.cap, HLS.out.most⟩)
      clear hls hsl hnl HMD HRD HOWN
      generalize rdL s = RR at *
      generalize (isL RR && encL RR == s) = B at *
      cases R with
      | nil =>
        have d1 : ((bs []).toList == []) = true := by rw [clbs_list]; rfl
        have d1' : ((bs []).toList != []) = false := by rw [bne, d1]; rfl
        go_wp2_with fail
        refine (HS.out _ (Kept.refl _)).mono ?_
        rintro e w6 ⟨g6, ha, hb⟩
        cases B with
        | true =>
          obtain ⟨rfl, rfl⟩ := HD.out.1 rfl
          obtain rfl := ha rfl
          clear ha hb
          go_wp2_with fail
          go_ret2
          exact ⟨A', c', by rw [HLR.out] <;> rfl, HLS.out.lss.kept g6, HCP.out.1, HCP.out.2, kept_trans HK.out g6⟩
        | false =>
          obtain ⟨rfl, rfl⟩ := HD.out.2 rfl
          obtain rfl := hb rfl
          clear ha hb
          go_wp2_with fail
          go_ret2
          exact ⟨none, 0, rfl, Lss.nil _ _, Nat.le_refl _, Nat.zero_le _, kept_trans HK.out g6⟩
      | cons r0 R =>
        obtain rfl : n = 5 := by
          rcases hdone with h | h
          · cases h
          · exact h
        have d1 : ((bs (r0 :: R)).toList == []) = false := by rw [clbs_list]; rfl
        have d1' : ((bs (r0 :: R)).toList != []) = true := by rw [bne, d1]; rfl
        go_wp2_with fail
        refine (HS.out _ (Kept.refl _)).mono ?_
        rintro e w6 ⟨g6, ha, hb⟩
        cases B with
        | true =>
          obtain ⟨rfl, rfl⟩ := HD.out.1 rfl
          obtain rfl := ha rfl
          clear ha hb
          go_wp2_with fail
          go_ret2
          exact ⟨A', c', by rw [HLR.out] <;> rfl, HLS.out.lss.kept g6, HCP.out.1, HCP.out.2, kept_trans HK.out g6⟩
        | false =>
          obtain ⟨rfl, rfl⟩ := HD.out.2 rfl
          obtain rfl := hb rfl
          clear ha hb
          go_wp2_with fail
          go_ret2
          exact ⟨none, 0, rfl, Lss.nil _ _, Nat.le_refl _, Nat.zero_le _, kept_trans HK.out g6⟩
end Go.Proofs.Ytdmnmbomijnjeaa
