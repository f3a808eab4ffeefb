/-
  What the document's own Read (package screeref02) computes: the same as the program's.
-/
import Derived.Test.YtfllijckoabnmaaKeyRefUn
namespace Go.Proofs.Ytfllijckoabnmaa
open Go.ChangeShapes Go.WideShapes Go.ChangeAt Go.RowKit
set_option linter.unusedVariables false
set_option maxHeartbeats 400000
set_option maxRecDepth 100000 in
theorem rkread_lock_ok (s : ByteArray) (c : Int) (u r X : List UInt8) (x : Int) (hlen : 1 ≤ s.size) (hs : s.size ≤ 4096) (hc : ((s[0].toNat : Nat) : Int) = c) (h1 : (c != 1) = false)
    (HU : Hid (∀ w, Calls Try.prog 25 #[.string (bs (s.data.toList.drop 1))] w fun e w' => e = .returned (.tuple #[.string (bs u), .string (bs r), .int .i64 0]) ∧ Kept w w'))
    (HM : Hid (∀ w, Calls Try.prog 12 #[.agg #[.int .i64 c, .string (bs u), .int .u64 0]] w fun e w' => e = .returned (.tuple #[.string (bs X), .int .i64 x]) ∧ Kept w w'))
    (q1 : (x != 0) = false) (q2 : (!((bs X).toList == s.toList)) = false) (w : World) :
    Calls Try.prog 23 #[.string s] w fun e w' => e = .returned (.tuple #[parts c u 0, .int .i64 0]) ∧ Kept w w' := by
  obtain ⟨hne, hw⟩ := head_of s c hlen hc
  have hp0 : 0 < s.size := by omega
  have hz : ((s.size : Int) == 0) = false := by rw [beq_eq_false_iff_ne]; omega
  have HX := Lib.hid (extract_end s 1)
  clear hc hne
  go_enter Try.func23, Try.ntmps23
  go_wp2_with fail
  rw [HX.out]
  refine (HU.out _).mono ?_; rintro e w1 ⟨rfl, g1⟩
  have hlt := kept_lt g1
  go_wp2_with fail
  refine (HM.out _).mono ?_; rintro e w2 ⟨rfl, g2⟩
  obtain ⟨⟨p0, p1, p2⟩, pf⟩ := three g2
  obtain ⟨⟨c0, c1, c2⟩, f0, f1, f2⟩ := three (kept_trans g1 (kept_trans ((Kept.refl _).alloc _) g2))
  go_wp2_with fail
  refine bodyPost_ret (v := .tuple #[parts c u 0, .int .i64 0]) (by simp [results, Try.results23, parts, bs, go_sem, c0, c1, c2]) rfl ⟨rfl, ?_⟩
  exact kept_set (kept_set (kept_set (kept_trans (kept_trans ((Kept.refl _).alloc _) g1) (kept_trans ((Kept.refl _).alloc _) g2)) (by simp) _) (by simp) _) (by simp) _
set_option maxRecDepth 100000 in
theorem rkread_lock_bad (s : ByteArray) (c : Int) (u r X : List UInt8) (x : Int) (hlen : 1 ≤ s.size) (hs : s.size ≤ 4096) (hc : ((s[0].toNat : Nat) : Int) = c) (h1 : (c != 1) = false)
    (HU : Hid (∀ w, Calls Try.prog 25 #[.string (bs (s.data.toList.drop 1))] w fun e w' => e = .returned (.tuple #[.string (bs u), .string (bs r), .int .i64 0]) ∧ Kept w w'))
    (HM : Hid (∀ w, Calls Try.prog 12 #[.agg #[.int .i64 c, .string (bs u), .int .u64 0]] w fun e w' => e = .returned (.tuple #[.string (bs X), .int .i64 x]) ∧ Kept w w'))
    (q1 : (x != 0) = true) (w : World) :
    Calls Try.prog 23 #[.string s] w fun e w' => e = .returned (.tuple #[parts 0 [] 0, .int .i64 2]) ∧ Kept w w' := by
  obtain ⟨hne, hw⟩ := head_of s c hlen hc
  have hp0 : 0 < s.size := by omega
  have hz : ((s.size : Int) == 0) = false := by rw [beq_eq_false_iff_ne]; omega
  have HX := Lib.hid (extract_end s 1)
  clear hc hne
  go_enter Try.func23, Try.ntmps23
  go_wp2_with fail
  rw [HX.out]
  refine (HU.out _).mono ?_; rintro e w1 ⟨rfl, g1⟩
  have hlt := kept_lt g1
  go_wp2_with fail
  refine (HM.out _).mono ?_; rintro e w2 ⟨rfl, g2⟩
  obtain ⟨⟨p0, p1, p2⟩, pf⟩ := three g2
  obtain ⟨⟨c0, c1, c2⟩, f0, f1, f2⟩ := three (kept_trans g1 (kept_trans ((Kept.refl _).alloc _) g2))
  go_wp2_with fail
  refine bodyPost_ret (v := .tuple #[parts 0 [] 0, .int .i64 2]) (by simp [results, Try.results23, parts, bs, go_sem, c0, c1, c2]) rfl ⟨rfl, ?_⟩
  exact kept_set (kept_set (kept_set (kept_trans (kept_trans ((Kept.refl _).alloc _) g1) (kept_trans ((Kept.refl _).alloc _) g2)) (by simp) _) (by simp) _) (by simp) _
set_option maxRecDepth 100000 in
theorem rkread_lock_not (s : ByteArray) (c : Int) (u r X : List UInt8) (x : Int) (hlen : 1 ≤ s.size) (hs : s.size ≤ 4096) (hc : ((s[0].toNat : Nat) : Int) = c) (h1 : (c != 1) = false)
    (HU : Hid (∀ w, Calls Try.prog 25 #[.string (bs (s.data.toList.drop 1))] w fun e w' => e = .returned (.tuple #[.string (bs u), .string (bs r), .int .i64 0]) ∧ Kept w w'))
    (HM : Hid (∀ w, Calls Try.prog 12 #[.agg #[.int .i64 c, .string (bs u), .int .u64 0]] w fun e w' => e = .returned (.tuple #[.string (bs X), .int .i64 x]) ∧ Kept w w'))
    (q1 : (x != 0) = false) (q2 : (!((bs X).toList == s.toList)) = true) (w : World) :
    Calls Try.prog 23 #[.string s] w fun e w' => e = .returned (.tuple #[parts 0 [] 0, .int .i64 2]) ∧ Kept w w' := by
  obtain ⟨hne, hw⟩ := head_of s c hlen hc
  have hp0 : 0 < s.size := by omega
  have hz : ((s.size : Int) == 0) = false := by rw [beq_eq_false_iff_ne]; omega
  have HX := Lib.hid (extract_end s 1)
  clear hc hne
  go_enter Try.func23, Try.ntmps23
  go_wp2_with fail
  rw [HX.out]
  refine (HU.out _).mono ?_; rintro e w1 ⟨rfl, g1⟩
  have hlt := kept_lt g1
  go_wp2_with fail
  refine (HM.out _).mono ?_; rintro e w2 ⟨rfl, g2⟩
  obtain ⟨⟨p0, p1, p2⟩, pf⟩ := three g2
  obtain ⟨⟨c0, c1, c2⟩, f0, f1, f2⟩ := three (kept_trans g1 (kept_trans ((Kept.refl _).alloc _) g2))
  go_wp2_with fail
  refine bodyPost_ret (v := .tuple #[parts 0 [] 0, .int .i64 2]) (by simp [results, Try.results23, parts, bs, go_sem, c0, c1, c2]) rfl ⟨rfl, ?_⟩
  exact kept_set (kept_set (kept_set (kept_trans (kept_trans ((Kept.refl _).alloc _) g1) (kept_trans ((Kept.refl _).alloc _) g2)) (by simp) _) (by simp) _) (by simp) _
set_option maxRecDepth 100000 in
theorem rkread_time_ok (s : ByteArray) (c : Int) (u r X : List UInt8) (x : Int) (t : Int) (b : Bool) (hlen : 1 ≤ s.size) (hs : s.size ≤ 4096) (hc : ((s[0].toNat : Nat) : Int) = c) (h1 : (c != 1) = true) (HF : Hid (∀ w, Calls Try.prog 34 #[.string (bs r)] w fun e w' => e = .returned (.tuple #[.int .u64 t, .bool b]) ∧ w = w'))
    (HU : Hid (∀ w, Calls Try.prog 25 #[.string (bs (s.data.toList.drop 1))] w fun e w' => e = .returned (.tuple #[.string (bs u), .string (bs r), .int .i64 0]) ∧ Kept w w'))
    (HM : Hid (∀ w, Calls Try.prog 12 #[.agg #[.int .i64 c, .string (bs u), .int .u64 t]] w fun e w' => e = .returned (.tuple #[.string (bs X), .int .i64 x]) ∧ Kept w w'))
    (q1 : (x != 0) = false) (q2 : (!((bs X).toList == s.toList)) = false) (w : World) :
    Calls Try.prog 23 #[.string s] w fun e w' => e = .returned (.tuple #[parts c u t, .int .i64 0]) ∧ Kept w w' := by
  obtain ⟨hne, hw⟩ := head_of s c hlen hc
  have hp0 : 0 < s.size := by omega
  have hz : ((s.size : Int) == 0) = false := by rw [beq_eq_false_iff_ne]; omega
  have HX := Lib.hid (extract_end s 1)
  clear hc hne
  go_enter Try.func23, Try.ntmps23
  go_wp2_with fail
  rw [HX.out]
  refine (HU.out _).mono ?_; rintro e w1 ⟨rfl, g1⟩
  have hlt := kept_lt g1
  go_wp2_with fail
  refine (HF.out _).mono ?_; rintro e w2 ⟨rfl, rfl⟩
  go_wp2_with fail
  refine (HM.out _).mono ?_; rintro e w2 ⟨rfl, g2⟩
  obtain ⟨⟨p0, p1, p2⟩, pf⟩ := three g2
  obtain ⟨⟨c0, c1, c2⟩, f0, f1, f2⟩ := three (kept_trans g1 (kept_trans ((Kept.refl _).alloc _) g2))
  go_wp2_with fail
  refine bodyPost_ret (v := .tuple #[parts c u t, .int .i64 0]) (by simp [results, Try.results23, parts, bs, go_sem, c0, c1, c2]) rfl ⟨rfl, ?_⟩
  exact kept_set (kept_set (kept_set (kept_trans (kept_trans ((Kept.refl _).alloc _) g1) (kept_trans ((Kept.refl _).alloc _) g2)) (by simp) _) (by simp) _) (by simp) _
set_option maxRecDepth 100000 in
theorem rkread_time_bad (s : ByteArray) (c : Int) (u r X : List UInt8) (x : Int) (t : Int) (b : Bool) (hlen : 1 ≤ s.size) (hs : s.size ≤ 4096) (hc : ((s[0].toNat : Nat) : Int) = c) (h1 : (c != 1) = true) (HF : Hid (∀ w, Calls Try.prog 34 #[.string (bs r)] w fun e w' => e = .returned (.tuple #[.int .u64 t, .bool b]) ∧ w = w'))
    (HU : Hid (∀ w, Calls Try.prog 25 #[.string (bs (s.data.toList.drop 1))] w fun e w' => e = .returned (.tuple #[.string (bs u), .string (bs r), .int .i64 0]) ∧ Kept w w'))
    (HM : Hid (∀ w, Calls Try.prog 12 #[.agg #[.int .i64 c, .string (bs u), .int .u64 t]] w fun e w' => e = .returned (.tuple #[.string (bs X), .int .i64 x]) ∧ Kept w w'))
    (q1 : (x != 0) = true) (w : World) :
    Calls Try.prog 23 #[.string s] w fun e w' => e = .returned (.tuple #[parts 0 [] 0, .int .i64 2]) ∧ Kept w w' := by
  obtain ⟨hne, hw⟩ := head_of s c hlen hc
  have hp0 : 0 < s.size := by omega
  have hz : ((s.size : Int) == 0) = false := by rw [beq_eq_false_iff_ne]; omega
  have HX := Lib.hid (extract_end s 1)
  clear hc hne
  go_enter Try.func23, Try.ntmps23
  go_wp2_with fail
  rw [HX.out]
  refine (HU.out _).mono ?_; rintro e w1 ⟨rfl, g1⟩
  have hlt := kept_lt g1
  go_wp2_with fail
  refine (HF.out _).mono ?_; rintro e w2 ⟨rfl, rfl⟩
  go_wp2_with fail
  refine (HM.out _).mono ?_; rintro e w2 ⟨rfl, g2⟩
  obtain ⟨⟨p0, p1, p2⟩, pf⟩ := three g2
  obtain ⟨⟨c0, c1, c2⟩, f0, f1, f2⟩ := three (kept_trans g1 (kept_trans ((Kept.refl _).alloc _) g2))
  go_wp2_with fail
  refine bodyPost_ret (v := .tuple #[parts 0 [] 0, .int .i64 2]) (by simp [results, Try.results23, parts, bs, go_sem, c0, c1, c2]) rfl ⟨rfl, ?_⟩
  exact kept_set (kept_set (kept_set (kept_trans (kept_trans ((Kept.refl _).alloc _) g1) (kept_trans ((Kept.refl _).alloc _) g2)) (by simp) _) (by simp) _) (by simp) _
set_option maxRecDepth 100000 in
theorem rkread_time_not (s : ByteArray) (c : Int) (u r X : List UInt8) (x : Int) (t : Int) (b : Bool) (hlen : 1 ≤ s.size) (hs : s.size ≤ 4096) (hc : ((s[0].toNat : Nat) : Int) = c) (h1 : (c != 1) = true) (HF : Hid (∀ w, Calls Try.prog 34 #[.string (bs r)] w fun e w' => e = .returned (.tuple #[.int .u64 t, .bool b]) ∧ w = w'))
    (HU : Hid (∀ w, Calls Try.prog 25 #[.string (bs (s.data.toList.drop 1))] w fun e w' => e = .returned (.tuple #[.string (bs u), .string (bs r), .int .i64 0]) ∧ Kept w w'))
    (HM : Hid (∀ w, Calls Try.prog 12 #[.agg #[.int .i64 c, .string (bs u), .int .u64 t]] w fun e w' => e = .returned (.tuple #[.string (bs X), .int .i64 x]) ∧ Kept w w'))
    (q1 : (x != 0) = false) (q2 : (!((bs X).toList == s.toList)) = true) (w : World) :
    Calls Try.prog 23 #[.string s] w fun e w' => e = .returned (.tuple #[parts 0 [] 0, .int .i64 2]) ∧ Kept w w' := by
  obtain ⟨hne, hw⟩ := head_of s c hlen hc
  have hp0 : 0 < s.size := by omega
  have hz : ((s.size : Int) == 0) = false := by rw [beq_eq_false_iff_ne]; omega
  have HX := Lib.hid (extract_end s 1)
  clear hc hne
  go_enter Try.func23, Try.ntmps23
  go_wp2_with fail
  rw [HX.out]
  refine (HU.out _).mono ?_; rintro e w1 ⟨rfl, g1⟩
  have hlt := kept_lt g1
  go_wp2_with fail
  refine (HF.out _).mono ?_; rintro e w2 ⟨rfl, rfl⟩
  go_wp2_with fail
  refine (HM.out _).mono ?_; rintro e w2 ⟨rfl, g2⟩
  obtain ⟨⟨p0, p1, p2⟩, pf⟩ := three g2
  obtain ⟨⟨c0, c1, c2⟩, f0, f1, f2⟩ := three (kept_trans g1 (kept_trans ((Kept.refl _).alloc _) g2))
  go_wp2_with fail
  refine bodyPost_ret (v := .tuple #[parts 0 [] 0, .int .i64 2]) (by simp [results, Try.results23, parts, bs, go_sem, c0, c1, c2]) rfl ⟨rfl, ?_⟩
  exact kept_set (kept_set (kept_set (kept_trans (kept_trans ((Kept.refl _).alloc _) g1) (kept_trans ((Kept.refl _).alloc _) g2)) (by simp) _) (by simp) _) (by simp) _
set_option maxRecDepth 100000 in
theorem rkread_key (s : ByteArray) (c : Int) (hlen : 1 ≤ s.size) (hs : s.size ≤ 4096) (hc : ((s[0].toNat : Nat) : Int) = c)
    (HU : Hid (∀ w, Calls Try.prog 25 #[.string (bs (s.data.toList.drop 1))] w fun e w' => e = .returned (.tuple #[.string (bs []), .string (bs []), .int .i64 2]) ∧ Kept w w')) (w : World) :
    Calls Try.prog 23 #[.string s] w fun e w' => e = .returned (.tuple #[parts 0 [] 0, .int .i64 2]) ∧ Kept w w' := by
  obtain ⟨hne, hw⟩ := head_of s c hlen hc
  have hp0 : 0 < s.size := by omega
  have hz : ((s.size : Int) == 0) = false := by rw [beq_eq_false_iff_ne]; omega
  have HX := Lib.hid (extract_end s 1)
  clear hc hne
  go_enter Try.func23, Try.ntmps23
  go_wp2_with fail
  rw [HX.out]
  refine (HU.out _).mono ?_; rintro e w1 ⟨rfl, g1⟩
  obtain ⟨⟨c0, c1, c2⟩, f0, f1, f2⟩ := three g1
  go_wp2_with fail
  refine bodyPost_ret (v := .tuple #[parts 0 [] 0, .int .i64 2]) (by simp [results, Try.results23, parts, bs, go_sem, c0, c1, c2]) rfl ⟨rfl, ?_⟩
  exact kept_set (kept_set (kept_set (kept_trans ((Kept.refl _).alloc _) g1) (by simp) _) (by simp) _) (by simp) _
theorem rkread_empty (w : World) :
    Calls Try.prog 23 #[.string (bs [])] w fun e w' => e = .returned (.tuple #[parts 0 [] 0, .int .i64 2]) ∧ Kept w w' := by
  have hz : (((bs []).size : Int) == 0) = true := by rw [bs_size]; rfl
  go_enter Try.func23, Try.ntmps23
  go_wp2_with fail
  refine bodyPost_ret (v := .tuple #[parts 0 [] 0, .int .i64 2]) (by simp [results, Try.results23, parts, bs, go_sem]) rfl ⟨rfl, ?_⟩
  exact (Kept.refl _).alloc _
theorem rkread_yes (s : ByteArray) (c : Int) (u : List UInt8) (t : Int) (hs : s.size ≤ 4096) (h : Ky.Ok c u t) (he : s.data.toList = Ky.mk c u t) (w : World) :
    Calls Try.prog 23 #[.string s] w fun e w' => e = .returned (.tuple #[parts c u t, .int .i64 0]) ∧ Kept w w' := by
  obtain ⟨b1, b2, b3, b4, b5, b6⟩ := h.bd
  have hl : s.data.toList.length = s.size := by simp
  have hlen : 1 ≤ s.size := by rw [← hl, he, Ky.mk, Ky.fst]; simp
  have h0 : s[0] = Ky.cfb c := by rw [← getD_of s 0 (by omega), he]; rfl
  have hc0 : ((s[0].toNat : Nat) : Int) = c := by rw [h0]; exact Ky.cfb_toNat h.1
  have hd : s.data.toList.drop 1 = Ky.esc u ++ Ky.tailS c t := by rw [he, Ky.mk, Ky.fst]; rfl
  have hsz : (bs (s.data.toList.drop 1)).size ≤ 4096 := by rw [bs_size, List.length_drop]; omega
  have HU := rkunescape_yes (bs (s.data.toList.drop 1)) u (Ky.tailS c t) hsz hd h.2.1
  have HM := rkmake_any c (bs u) t (by rw [bs_size]; unfold maxLen; omega) b5 (by omega)
  rw [bs_data, Ky.makeS_ok h, Ky.makeE_ok h] at HM
  have q2 : (!((bs (Ky.mk c u t)).toList == s.toList)) = false := by rw [Lib.toList_data, Lib.toList_data, bs_data, he]; simp
  by_cases hc : c = 1
  · obtain rfl : t = 0 := by have := h.2.2.2; unfold Ky.lastT at this; rw [if_pos hc] at this; omega
    exact rkread_lock_ok s c u _ _ 0 hlen hs hc0 (by simp [hc]) HU HM rfl q2 w
  · have htl : (bs (Ky.tailS c t)).size ≤ maxLen := by rw [bs_size, Ky.tail_len]; unfold maxLen; split <;> omega
    have HF := runfall_any (bs (Ky.tailS c t)) htl
    have e1 : ((Nm.unf (bs (Ky.tailS c t)).data.toList : Nat) : Int) = t := by
      rw [bs_data]; unfold Ky.tailS; rw [if_neg hc, Ky.unf_fall _ (by omega)]; omega
    rw [e1] at HF
    exact rkread_time_ok s c u _ _ 0 t _ hlen hs hc0 (by simp [hc]) HF HU HM rfl q2 w
theorem rkread_no (s : ByteArray) (hs : s.size ≤ 4096) (h : ¬ IsKey s.data.toList) (w : World) :
    Calls Try.prog 23 #[.string s] w fun e w' => e = .returned (.tuple #[parts 0 [] 0, .int .i64 2]) ∧ Kept w w' := by
  have hl : s.data.toList.length = s.size := by simp
  by_cases hz : s.size = 0
  · obtain rfl : s = bs [] := bs_of (List.eq_nil_of_length_eq_zero (by rw [hl]; exact hz))
    exact rkread_empty w
  · have hp0 : 0 < s.size := by omega
    have hs1 := byte_head s hp0
    have hsz : (bs (s.data.toList.drop 1)).size ≤ 4096 := by rw [bs_size, List.length_drop]; omega
    by_cases hB : Begins (s.data.toList.drop 1)
    · obtain ⟨u, r, hd, hm⟩ := hB
      have HU := rkunescape_yes (bs (s.data.toList.drop 1)) u r hsz hd hm
      have hul := (Ky.may_bd hm).2
      have hum : (bs u).size ≤ maxLen := by rw [bs_size]; unfold maxLen; omega
      have hrl : (bs r).size ≤ maxLen := by
        have := congrArg List.length hd
        rw [List.length_append, List.length_drop] at this
        rw [bs_size]; unfold maxLen; omega
      have key : ∀ t : Int, 0 ≤ t → ∀ X, X = Ky.makeS ((s[0].toNat : Nat) : Int) u t → (Ky.makeE ((s[0].toNat : Nat) : Int) u t != 0) = true ∨ ((Ky.makeE ((s[0].toNat : Nat) : Int) u t != 0) = false ∧ (!((bs X).toList == s.toList)) = true) := by
        intro t ht X hX
        by_cases hk : Ky.Ok ((s[0].toNat : Nat) : Int) u t
        · right
          refine ⟨by rw [Ky.makeE_ok hk]; rfl, ?_⟩
          rw [hX, Ky.makeS_ok hk, Lib.toList_data, Lib.toList_data, bs_data, Bool.not_eq_true', beq_eq_false_iff_ne]
          exact fun e => h ⟨_, u, t, hk, e.symm⟩
        · left; rw [bne_iff_ne]; exact Ky.makeE_no ht hk
      by_cases hc : ((s[0].toNat : Nat) : Int) = 1
      · have HM := rkmake_any ((s[0].toNat : Nat) : Int) (bs u) 0 hum (by omega) (by omega)
        rw [bs_data] at HM
        rcases key 0 (by omega) _ rfl with q1 | ⟨q1, q2⟩
        · exact rkread_lock_bad s _ u r _ _ hp0 hs rfl (by rw [hc]; rfl) HU HM q1 w
        · exact rkread_lock_not s _ u r _ _ hp0 hs rfl (by rw [hc]; rfl) HU HM q1 q2 w
      · have HF := runfall_any (bs r) hrl
        rw [bs_data] at HF
        have hle := Ky.unf_le r
        have HM := rkmake_any ((s[0].toNat : Nat) : Int) (bs u) ((Nm.unf r : Nat) : Int) hum (by omega) (by omega)
        rw [bs_data] at HM
        have h1 : (((s[0].toNat : Nat) : Int) != 1) = true := by rw [bne_iff_ne]; exact hc
        rcases key ((Nm.unf r : Nat) : Int) (by omega) _ rfl with q1 | ⟨q1, q2⟩
        · exact rkread_time_bad s _ u r _ _ _ _ hp0 hs rfl h1 HF HU HM q1 w
        · exact rkread_time_not s _ u r _ _ _ _ hp0 hs rfl h1 HF HU HM q1 q2 w
    · exact rkread_key s _ hp0 hs rfl (rkunescape_no (bs (s.data.toList.drop 1)) hsz hB) w
end Go.Proofs.Ytfllijckoabnmaa
