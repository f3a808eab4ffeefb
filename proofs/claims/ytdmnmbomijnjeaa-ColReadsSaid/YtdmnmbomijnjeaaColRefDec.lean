/-
  The document's own: which lock, write and leases bytes are.
-/
import Derived.Test.YtdmnmbomijnjeaaColRefList
import Derived.Test.YtdmnmbomijnjeaaInNum
namespace Go.Proofs.Ytdmnmbomijnjeaa
open Go.ChangeShapes Go.WideShapes Go.ChangeAt Go.RowKit
set_option linter.unusedVariables false
set_option maxRecDepth 100000
set_option maxHeartbeats 8000000
open Co
/-- the result's block, the reader and what is read, of the call's own -/
structure UK (w0 : World) (n : Nat) (t : TypeId) (z : Array Value) (R : List UInt8) (b : Bool) (c : Array Value) (W : World) : Prop where
  k : Kept w0 W
  new : w0.heap.size ≤ n
  z : W.heap[n]? = some (.cells z t (0, 0))
  i : IRd W (n + 1) R b
  c : W.heap[n + 2]? = some (.cells c t (0, 0))
theorem UK.kept {w0 : World} {n : Nat} {t : TypeId} {z c : Array Value} {R : List UInt8} {b : Bool} {W W' : World} (h : UK w0 n t z R b c W) (k : Kept W W') : UK w0 n t z R b c W' :=
  ⟨kept_trans h.k k, h.new, clhp h.z k, h.i.kept k, clhp h.c k⟩
theorem UK.num {w0 : World} {n : Nat} {t : TypeId} {z c : Array Value} {R R' : List UInt8} {b b' : Bool} {W W' : World} (h : UK w0 n t z R b c W) (hi : IRd W' (n + 1) R' b') (k : IBut (n + 1) W W') : UK w0 n t z R' b' c W' :=
  ⟨k.new h.k (by have := h.new; omega), h.new, k.at h.z (by omega), hi, k.at h.c (by omega)⟩
theorem clset_ne {w : World} {b b0 : Nat} {x : Option Obj} (h : w.heap[b]? = x) (hne : b ≠ b0) (j : Nat) (v : Value) : (w.setCell ⟨b0, j, none⟩ v).heap[b]? = x := by
  rw [Below.heap_setCell _ _ _ _ (by exact hne)]; exact h
theorem UK.set {w0 : World} {n : Nat} {t : TypeId} {z c : Array Value} {R : List UInt8} {b : Bool} {W : World} (h : UK w0 n t z R b c W) (j : Nat) (x : Value) : UK w0 n t z R b (c.setIfInBounds j x) (W.setCell ⟨n + 2, j, none⟩ x) :=
  ⟨clkset h.k (by have := h.new; omega) j x, h.new, clset_ne h.z (by omega) j x, clset_ne h.i (by omega) j x, clset h.c j x⟩
theorem UK.new_ {w : World} (t : TypeId) (z c : Array Value) (R : List UInt8) : UK w w.heap.size t z R false c (((w.alloc (.cells z t)).alloc (.cells #[.string (bs R), .bool false] 76)).alloc (.cells c t)) := by
  have h1 := clnew w (.cells z t)
  have h2 := clnew (w.alloc (.cells z t)) (.cells #[.string (bs R), .bool false] 76)
  have h3 := clnew ((w.alloc (.cells z t)).alloc (.cells #[.string (bs R), .bool false] 76)) (.cells c t)
  rw [World.size_alloc] at h2
  rw [World.size_alloc, World.size_alloc] at h3
  exact ⟨((Kept.refl w).alloc _).alloc _ |>.alloc _, Nat.le_refl _, clhp h1 (((Kept.refl _).alloc _).alloc _), clhp h2 ((Kept.refl _).alloc _), h3⟩
theorem bK_nil : bK [] = false := by decide +kernel
theorem bW_nil : bW [] = false := by decide +kernel
theorem readK (c : UInt8) (t : List UInt8) (l : Lk) (B : Bool) (hl : l = ⟨inR (inR t false) (inB t false), inN t false, (c.toNat : Nat), inN (inR t false) (inB t false)⟩) (hB : B = inB (inR t false) (inB t false)) :
    (B = true → bK (c :: t) = false) ∧ (B = false → l = rdK (c :: t)) := by
  subst hl; subst hB
  refine ⟨fun h => ?_, fun h => ?_⟩
  · cases hb : bK (c :: t) with
    | false => rfl
    | true =>
      obtain ⟨_, h1, h2⟩ := bK_takes hb
      rw [List.drop_succ_cons, List.drop_zero] at h1 h2
      obtain ⟨e1, e2, e3⟩ := in_yes h1
      rw [e1, e3, (in_yes h2).1] at h
      cases h
  · obtain ⟨h1, h2, h3, h4⟩ := in_good h
    obtain ⟨_, h6, h7, h8⟩ := in_good h1
    rw [h3, h4, h7, h8]
    rfl
theorem readW (c : UInt8) (t : List UInt8) (l : Wr) (B : Bool) (hl : l = ⟨inN t false, (c.toNat : Nat)⟩) (hB : B = inB t false) :
    (B = true → bW (c :: t) = false) ∧ (B = false → l = rdW (c :: t)) := by
  subst hl; subst hB
  refine ⟨fun h => ?_, fun h => ?_⟩
  · cases hb : bW (c :: t) with
    | false => rfl
    | true =>
      obtain ⟨_, h1⟩ := bW_takes hb
      rw [List.drop_succ_cons, List.drop_zero] at h1
      rw [(in_yes h1).1] at h
      cases h
  · obtain ⟨_, h2, h3, h4⟩ := in_good h
    rw [h3]
    rfl
theorem noK {s : List UInt8} (h : bK s = false) : lkv (dK s) = .agg #[.string ⟨#[]⟩, .int .u64 0, .int .i64 0, .int .u64 0] ∧ dKC s = 2 := by unfold dK dKC; rw [h]; exact ⟨rfl, rfl⟩
theorem noW {s : List UInt8} (h : bW s = false) : wrv (dW s) = .agg #[.int .u64 0, .int .i64 0] ∧ dWC s = 2 := by unfold dW dWC; rw [h]; exact ⟨rfl, rfl⟩
theorem yesK {s : List UInt8} (h1 : isK (rdK s) = true) (h2 : encK (rdK s) = s) : dK s = rdK s ∧ dKC s = 0 := by
  have h : bK s = true := by unfold bK; rw [h1, h2]; simp
  unfold dK dKC; rw [h]; exact ⟨rfl, rfl⟩
theorem yesW {s : List UInt8} (h1 : isW (rdW s) = true) (h2 : encW (rdW s) = s) : dW s = rdW s ∧ dWC s = 0 := by
  have h : bW s = true := by unfold bW; rw [h1, h2]; simp
  unfold dW dWC; rw [h]; exact ⟨rfl, rfl⟩
theorem notK {s : List UInt8} (h : ¬ (isK (rdK s) = true ∧ encK (rdK s) = s)) : bK s = false := by
  unfold bK
  cases h1 : isK (rdK s) with
  | false => rfl
  | true => simp; intro h2; exact h ⟨h1, h2⟩
theorem notW {s : List UInt8} (h : ¬ (isW (rdW s) = true ∧ encW (rdW s) = s)) : bW s = false := by
  unfold bW
  cases h1 : isW (rdW s) with
  | false => rfl
  | true => simp; intro h2; exact h ⟨h1, h2⟩
theorem clrunlock_any (s : List UInt8) (hs : s.length ≤ 16777216) (w : World) :
    Calls Try.prog 19 #[.string (bs s)] w fun e w' => e = .returned (.tuple #[lkv (dK s), .int .i64 (dKC s)]) ∧ Kept w w' := by
  cases s with
  | nil =>
    have HR := Lib.hid (show Ending.returned (.tuple #[.agg #[.string ⟨#[]⟩, .int .u64 0, .int .i64 0, .int .u64 0], .int .i64 2]) = .returned (.tuple #[lkv (dK []), .int .i64 (dKC [])]) from by rw [(noK bK_nil).1, (noK bK_nil).2])
    have hz : (bs []).size = 0 := rfl
    have hz2 : ((((bs []).size : Nat) : Int) == 0) = true := rfl
    generalize bs [] = S at *
    have K0 := Lib.hid ((Kept.refl w).alloc (.cells #[.string ⟨#[]⟩, .int .u64 0, .int .i64 0, .int .u64 0] 24))
    have I0 := Lib.hid (clnew w (.cells #[.string ⟨#[]⟩, .int .u64 0, .int .i64 0, .int .u64 0] 24))
    go_enter Try.func19, Try.ntmps19
    go_wp2_with fail
    have z0 := clcell I0.out 0 rfl
    have z1 := clcell I0.out 1 rfl
    have z2 := clcell I0.out 2 rfl
    have z3 := clcell I0.out 3 rfl
    refine bodyPost_ret (v := .tuple #[.agg #[.string ⟨#[]⟩, .int .u64 0, .int .i64 0, .int .u64 0], .int .i64 2]) (by simp [results, Try.results19, go_sem, z0, z1, z2, z3]) rfl ⟨HR.out, ?_⟩
    exact K0.out
  | cons c t =>
    have hz : (bs (c :: t)).size = t.length + 1 := by rw [clbs_size]; rfl
    have hz0 : ((((bs (c :: t)).size : Nat) : Int) == 0) = false := by rw [hz]; exact decide_eq_false (by omega)
    have hz1 : 0 < (bs (c :: t)).size := by omega
    have hz2 : 1 ≤ (bs (c :: t)).size := by omega
    have hz3 : (1 : Int) ≤ ((bs (c :: t)).size : Int) := by omega
    have hz4 : (0 : Int) < ((bs (c :: t)).size : Int) := by omega
    have hz5 : ¬ (((bs (c :: t)).size : Int) = 0) := by omega
    have HX := Lib.hid (show (bs (c :: t)).extract 1 (bs (c :: t)).size = bs t from by rw [extract_end]; rfl)
    have hxx := HX.out
    have HC := Lib.hid (show (bs (c :: t))[0]'hz1 = c from rfl)
    have hcl := c.toNat_lt
    have hw0 : IntKind.i64.wrap (((bs (c :: t))[0]'hz1).toNat : Int) = (c.toNat : Int) := by rw [HC.out, IntKind.wrap_i64]; omega
    have htl : t.length ≤ 16777216 := by simp at hs; omega
    clear hz hs
    have l1 := inR_le t false
    have l2 := inR_le (inR t false) (inB t false)
    have HN1 := Lib.hid (fun W (h : IRd W (w.heap.size + 1) t false) => irnum_any htl W h)
    have HN2 := Lib.hid (fun W (h : IRd W (w.heap.size + 1) (inR t false) (inB t false)) => irnum_any (by omega) W h)
    have b1 := inN_lt t false
    have b2 := inN_lt (inR t false) (inB t false)
    obtain ⟨l9, hl9⟩ : ∃ l9 : Lk, l9 = ⟨inR (inR t false) (inB t false), inN t false, (c.toNat : Nat), inN (inR t false) (inB t false)⟩ := ⟨_, rfl⟩
    obtain ⟨B, hB⟩ : ∃ B, B = inB (inR t false) (inB t false) := ⟨_, rfl⟩
    have HRB := Lib.hid (readK c t l9 B hl9 hB)
    have HENC := Lib.hid (clrlock_any l9 (by rw [hl9]; unfold maxLen; dsimp only; omega) (by rw [hl9]; dsimp only; omega))
    have HL9 := Lib.hid (show lkv l9 = .agg #[.string (bs (inR (inR t false) (inB t false))), .int .u64 (inN t false : Nat), .int .i64 (c.toNat : Nat), .int .u64 (inN (inR t false) (inB t false) : Nat)] from by rw [hl9]; rfl)
    rw [HL9.out] at HENC
    rw [← hB] at HN2
    have YY := Lib.hid True.intro
    clear hl9 hB b1 b2 l1 l2
    generalize inN (inR t false) (inB t false) = N2 at *
    generalize inR (inR t false) (inB t false) = P at *
    generalize inN t false = N1 at *
    generalize inR t false = R1 at *
    generalize inB t false = B1 at *
    generalize hk0 : c.toNat = k0 at *
    have U0 := Lib.hid (UK.new_ (w := w) 24 #[.string ⟨#[]⟩, .int .u64 0, .int .i64 0, .int .u64 0] #[.string ⟨#[]⟩, .int .u64 0, .int .i64 (k0 : Nat), .int .u64 0] t)
    suffices HMAIN : Calls Try.prog 19 #[.string (bs (c :: t))] w fun e w' => e = .returned (.tuple #[lkv (dK (c :: t)), .int .i64 (dKC (c :: t))]) ∧ Kept w w' from HMAIN
    go_enter Try.func19, Try.ntmps19
    go_wp2_with fail
    refine (HN1.out _ U0.out.i).mono ?_
    rintro e w2 ⟨rfl, i2, g2⟩
    have U2 := Lib.hid (U0.out.num i2 g2)
    have y1 := clcell U2.out.c 1 rfl; have f1 := clsoft U2.out.c 1
    have U3 := Lib.hid (U2.out.set 1 (.int .u64 (N1 : Nat)))
    clear i2 g2 U0
    go_wp2_with fail
    refine (HN2.out _ U3.out.i).mono ?_
    rintro e w4 ⟨rfl, i4, g4⟩
    have U4 := Lib.hid (U3.out.num i4 g4)
    clear y1 f1
    have y3 := clcell U4.out.c 3 rfl; have f3 := clsoft U4.out.c 3
    have U5 := Lib.hid (U4.out.set 3 (.int .u64 (N2 : Nat)))
    have ir := ircell U5.out.i 0 rfl
    have y0 := clcell U5.out.c 0 rfl; have f0 := clsoft U5.out.c 0
    have U8 := Lib.hid (U5.out.set 0 (.string (bs P)))
    have x0 := clcell U8.out.c 0 rfl; have x1 := clcell U8.out.c 1 rfl; have x2 := clcell U8.out.c 2 rfl; have x3 := clcell U8.out.c 3 rfl
    clear i4 g4 U2 U3 U4 U5 HN1 HN2
    cases B with
    | true =>
      have hb := HRB.out.1 rfl
      have HR := Lib.hid (show Ending.returned (.tuple #[.agg #[.string ⟨#[]⟩, .int .u64 0, .int .i64 0, .int .u64 0], .int .i64 2]) = .returned (.tuple #[lkv (dK (c :: t)), .int .i64 (dKC (c :: t))]) from by rw [(noK hb).1, (noK hb).2])
      obtain ⟨T9, hT9⟩ : ∃ T9, T9 = bs (encKS l9) := ⟨_, rfl⟩
      obtain ⟨C9, hC9⟩ : ∃ C9, C9 = encKC l9 := ⟨_, rfl⟩
      rw [← hT9, ← hC9] at HENC
      clear hT9 hC9 hb
      go_wp2_with fail
      refine (HENC.out _).mono ?_
      rintro e w9 ⟨rfl, g9⟩
      have U9 := Lib.hid (U8.out.kept g9)
      clear g9 U8 HENC YY
      have hz9 := U9.out.z; have hc9 := U9.out.c; have hi9 := U9.out.i
      have u0 := clcell hz9 0 rfl; have g0 := clsoft hz9 0
      have y0 := clcell hc9 0 rfl
      have u1 := clcell hz9 1 rfl; have g1 := clsoft hz9 1
      have y1 := clcell hc9 1 rfl
      have u2 := clcell hz9 2 rfl; have g2 := clsoft hz9 2
      have y2 := clcell hc9 2 rfl
      have u3 := clcell hz9 3 rfl; have g3 := clsoft hz9 3
      have y3 := clcell hc9 3 rfl
      have ib := ircell hi9 1 rfl
      have HZ9 := Lib.hid hz9
      clear hz9 hc9 hi9
      go_wp2_with fail
      have hb9 := (clset (clset (clset (clset HZ9.out 0 (.string ⟨#[]⟩)) 1 (.int .u64 0)) 2 (.int .i64 0)) 3 (.int .u64 0))
      have z0 := clcell (v := .string ⟨#[]⟩) hb9 0 rfl
      have z1 := clcell (v := .int .u64 0) hb9 1 rfl
      have z2 := clcell (v := .int .i64 0) hb9 2 rfl
      have z3 := clcell (v := .int .u64 0) hb9 3 rfl
      refine bodyPost_ret (v := .tuple #[.agg #[.string ⟨#[]⟩, .int .u64 0, .int .i64 0, .int .u64 0], .int .i64 2]) (by simp [results, Try.results19, go_sem, z0, z1, z2, z3]) rfl ⟨HR.out, ?_⟩
      exact (clkset (clkset (clkset (clkset U9.out.k (Nat.le_refl _) 0 _) (Nat.le_refl _) 1 _) (Nat.le_refl _) 2 _) (Nat.le_refl _) 3 _)
    | false =>
    have hrd := HRB.out.2 rfl
    cases hik : isK (rdK (c :: t)) with
    | false =>
      have hb : bK (c :: t) = false := notK (fun h => by rw [hik] at h; cases h.1)
      have HR := Lib.hid (show Ending.returned (.tuple #[.agg #[.string ⟨#[]⟩, .int .u64 0, .int .i64 0, .int .u64 0], .int .i64 2]) = .returned (.tuple #[lkv (dK (c :: t)), .int .i64 (dKC (c :: t))]) from by rw [(noK hb).1, (noK hb).2])
      rw [show encKC l9 = 2 from by rw [hrd]; unfold encKC; rw [hik]; rfl] at HENC
      generalize bs (encKS l9) = T9 at *
      clear hb hik hrd
      go_wp2_with fail
      refine (HENC.out _).mono ?_
      rintro e w9 ⟨rfl, g9⟩
      have U9 := Lib.hid (U8.out.kept g9)
      clear g9 U8 HENC YY
      have hz9 := U9.out.z; have hc9 := U9.out.c; have hi9 := U9.out.i
      have u0 := clcell hz9 0 rfl; have g0 := clsoft hz9 0
      have y0 := clcell hc9 0 rfl
      have u1 := clcell hz9 1 rfl; have g1 := clsoft hz9 1
      have y1 := clcell hc9 1 rfl
      have u2 := clcell hz9 2 rfl; have g2 := clsoft hz9 2
      have y2 := clcell hc9 2 rfl
      have u3 := clcell hz9 3 rfl; have g3 := clsoft hz9 3
      have y3 := clcell hc9 3 rfl
      have ib := ircell hi9 1 rfl
      have HZ9 := Lib.hid hz9
      clear hz9 hc9 hi9
      go_wp2_with fail
      have hb9 := (clset (clset (clset (clset HZ9.out 0 (.string ⟨#[]⟩)) 1 (.int .u64 0)) 2 (.int .i64 0)) 3 (.int .u64 0))
      have z0 := clcell (v := .string ⟨#[]⟩) hb9 0 rfl
      have z1 := clcell (v := .int .u64 0) hb9 1 rfl
      have z2 := clcell (v := .int .i64 0) hb9 2 rfl
      have z3 := clcell (v := .int .u64 0) hb9 3 rfl
      refine bodyPost_ret (v := .tuple #[.agg #[.string ⟨#[]⟩, .int .u64 0, .int .i64 0, .int .u64 0], .int .i64 2]) (by simp [results, Try.results19, go_sem, z0, z1, z2, z3]) rfl ⟨HR.out, ?_⟩
      exact (clkset (clkset (clkset (clkset U9.out.k (Nat.le_refl _) 0 _) (Nat.le_refl _) 1 _) (Nat.le_refl _) 2 _) (Nat.le_refl _) 3 _)
    | true =>
    by_cases hen : encK (rdK (c :: t)) = c :: t
    · obtain ⟨e1, e2⟩ := yesK hik hen
      have HR := Lib.hid (show Ending.returned (.tuple #[.agg #[.string (bs P), .int .u64 (N1 : Nat), .int .i64 (k0 : Nat), .int .u64 (N2 : Nat)], .int .i64 0]) = .returned (.tuple #[lkv (dK (c :: t)), .int .i64 (dKC (c :: t))]) from by rw [e1, e2, ← hrd, HL9.out])
      rw [show encKC l9 = 0 from by rw [hrd]; unfold encKC; rw [hik]; rfl, show encKS l9 = c :: t from by rw [hrd]; unfold encKS; rw [hik]; exact hen] at HENC
      have hne : ((bs (c :: t)).toList != (bs (c :: t)).toList) = false := by simp
      generalize bs (c :: t) = S at *
      clear e1 e2 hen hik hrd
      go_wp2_with fail
      refine (HENC.out _).mono ?_
      rintro e w9 ⟨rfl, g9⟩
      have U9 := Lib.hid (U8.out.kept g9)
      clear g9 U8 HENC YY
      have hz9 := U9.out.z; have hc9 := U9.out.c; have hi9 := U9.out.i
      have u0 := clcell hz9 0 rfl; have g0 := clsoft hz9 0
      have y0 := clcell hc9 0 rfl
      have u1 := clcell hz9 1 rfl; have g1 := clsoft hz9 1
      have y1 := clcell hc9 1 rfl
      have u2 := clcell hz9 2 rfl; have g2 := clsoft hz9 2
      have y2 := clcell hc9 2 rfl
      have u3 := clcell hz9 3 rfl; have g3 := clsoft hz9 3
      have y3 := clcell hc9 3 rfl
      have ib := ircell hi9 1 rfl
      have HZ9 := Lib.hid hz9
      clear hz9 hc9 hi9
      go_wp2_with fail
      have hb9 := (clset (clset (clset (clset HZ9.out 0 (.string (bs P))) 1 (.int .u64 (N1 : Nat))) 2 (.int .i64 (k0 : Nat))) 3 (.int .u64 (N2 : Nat)))
      have z0 := clcell (v := .string (bs P)) hb9 0 rfl
      have z1 := clcell (v := .int .u64 (N1 : Nat)) hb9 1 rfl
      have z2 := clcell (v := .int .i64 (k0 : Nat)) hb9 2 rfl
      have z3 := clcell (v := .int .u64 (N2 : Nat)) hb9 3 rfl
      refine bodyPost_ret (v := .tuple #[.agg #[.string (bs P), .int .u64 (N1 : Nat), .int .i64 (k0 : Nat), .int .u64 (N2 : Nat)], .int .i64 0]) (by simp [results, Try.results19, go_sem, z0, z1, z2, z3]) rfl ⟨HR.out, ?_⟩
      exact (clkset (clkset (clkset (clkset U9.out.k (Nat.le_refl _) 0 _) (Nat.le_refl _) 1 _) (Nat.le_refl _) 2 _) (Nat.le_refl _) 3 _)
    · have hb : bK (c :: t) = false := notK (fun h => hen h.2)
      have HR := Lib.hid (show Ending.returned (.tuple #[.agg #[.string ⟨#[]⟩, .int .u64 0, .int .i64 0, .int .u64 0], .int .i64 2]) = .returned (.tuple #[lkv (dK (c :: t)), .int .i64 (dKC (c :: t))]) from by rw [(noK hb).1, (noK hb).2])
      rw [show encKC l9 = 0 from by rw [hrd]; unfold encKC; rw [hik]; rfl, show encKS l9 = encK (rdK (c :: t)) from by rw [hrd]; unfold encKS; rw [hik]; rfl] at HENC
      have hne : ((bs (encK (rdK (c :: t)))).toList == (bs (c :: t)).toList) = false := by rw [clbs_eq]; simp [hen]
      have hne2 : ((bs (encK (rdK (c :: t)))).toList != (bs (c :: t)).toList) = true := by rw [bne, hne]; rfl
      generalize bs (encK (rdK (c :: t))) = T9 at *
      generalize bs (c :: t) = S at *
      clear hb hen hik hrd
      go_wp2_with fail
      refine (HENC.out _).mono ?_
      rintro e w9 ⟨rfl, g9⟩
      have U9 := Lib.hid (U8.out.kept g9)
      clear g9 U8 HENC YY
      have hz9 := U9.out.z; have hc9 := U9.out.c; have hi9 := U9.out.i
      have u0 := clcell hz9 0 rfl; have g0 := clsoft hz9 0
      have y0 := clcell hc9 0 rfl
      have u1 := clcell hz9 1 rfl; have g1 := clsoft hz9 1
      have y1 := clcell hc9 1 rfl
      have u2 := clcell hz9 2 rfl; have g2 := clsoft hz9 2
      have y2 := clcell hc9 2 rfl
      have u3 := clcell hz9 3 rfl; have g3 := clsoft hz9 3
      have y3 := clcell hc9 3 rfl
      have ib := ircell hi9 1 rfl
      have HZ9 := Lib.hid hz9
      clear hz9 hc9 hi9
      go_wp2_with fail
      have hb9 := (clset (clset (clset (clset HZ9.out 0 (.string ⟨#[]⟩)) 1 (.int .u64 0)) 2 (.int .i64 0)) 3 (.int .u64 0))
      have z0 := clcell (v := .string ⟨#[]⟩) hb9 0 rfl
      have z1 := clcell (v := .int .u64 0) hb9 1 rfl
      have z2 := clcell (v := .int .i64 0) hb9 2 rfl
      have z3 := clcell (v := .int .u64 0) hb9 3 rfl
      refine bodyPost_ret (v := .tuple #[.agg #[.string ⟨#[]⟩, .int .u64 0, .int .i64 0, .int .u64 0], .int .i64 2]) (by simp [results, Try.results19, go_sem, z0, z1, z2, z3]) rfl ⟨HR.out, ?_⟩
      exact (clkset (clkset (clkset (clkset U9.out.k (Nat.le_refl _) 0 _) (Nat.le_refl _) 1 _) (Nat.le_refl _) 2 _) (Nat.le_refl _) 3 _)
theorem clrunwrite_any (s : List UInt8) (hs : s.length ≤ 16777216) (w : World) :
    Calls Try.prog 21 #[.string (bs s)] w fun e w' => e = .returned (.tuple #[wrv (dW s), .int .i64 (dWC s)]) ∧ Kept w w' := by
  cases s with
  | nil =>
    have HR := Lib.hid (show Ending.returned (.tuple #[.agg #[.int .u64 0, .int .i64 0], .int .i64 2]) = .returned (.tuple #[wrv (dW []), .int .i64 (dWC [])]) from by rw [(noW bW_nil).1, (noW bW_nil).2])
    have hz : (bs []).size = 0 := rfl
    have hz2 : ((((bs []).size : Nat) : Int) == 0) = true := rfl
    generalize bs [] = S at *
    have K0 := Lib.hid ((Kept.refl w).alloc (.cells #[.int .u64 0, .int .i64 0] 26))
    have I0 := Lib.hid (clnew w (.cells #[.int .u64 0, .int .i64 0] 26))
    go_enter Try.func21, Try.ntmps21
    go_wp2_with fail
    have z0 := clcell I0.out 0 rfl
    have z1 := clcell I0.out 1 rfl
    refine bodyPost_ret (v := .tuple #[.agg #[.int .u64 0, .int .i64 0], .int .i64 2]) (by simp [results, Try.results21, go_sem, z0, z1]) rfl ⟨HR.out, ?_⟩
    exact K0.out
  | cons c t =>
    have hz : (bs (c :: t)).size = t.length + 1 := by rw [clbs_size]; rfl
    have hz0 : ((((bs (c :: t)).size : Nat) : Int) == 0) = false := by rw [hz]; exact decide_eq_false (by omega)
    have hz1 : 0 < (bs (c :: t)).size := by omega
    have hz2 : 1 ≤ (bs (c :: t)).size := by omega
    have hz3 : (1 : Int) ≤ ((bs (c :: t)).size : Int) := by omega
    have hz4 : (0 : Int) < ((bs (c :: t)).size : Int) := by omega
    have hz5 : ¬ (((bs (c :: t)).size : Int) = 0) := by omega
    have HX := Lib.hid (show (bs (c :: t)).extract 1 (bs (c :: t)).size = bs t from by rw [extract_end]; rfl)
    have hxx := HX.out
    have HC := Lib.hid (show (bs (c :: t))[0]'hz1 = c from rfl)
    have hcl := c.toNat_lt
    have hw0 : IntKind.i64.wrap (((bs (c :: t))[0]'hz1).toNat : Int) = (c.toNat : Int) := by rw [HC.out, IntKind.wrap_i64]; omega
    have htl : t.length ≤ 16777216 := by simp at hs; omega
    clear hz hs
    have HN1 := Lib.hid (fun W (h : IRd W (w.heap.size + 1) t false) => irnum_any htl W h)
    obtain ⟨l9, hl9⟩ : ∃ l9 : Wr, l9 = ⟨inN t false, (c.toNat : Nat)⟩ := ⟨_, rfl⟩
    obtain ⟨B, hB⟩ : ∃ B, B = inB t false := ⟨_, rfl⟩
    have HRB := Lib.hid (readW c t l9 B hl9 hB)
    have HENC := Lib.hid (clrwrite_any l9)
    have HL9 := Lib.hid (show wrv l9 = .agg #[.int .u64 (inN t false : Nat), .int .i64 (c.toNat : Nat)] from by rw [hl9]; rfl)
    rw [HL9.out] at HENC
    rw [← hB] at HN1
    have YY := Lib.hid True.intro
    clear hl9 hB
    generalize inN t false = N1 at *
    generalize inR t false = R1 at *
    generalize hk0 : c.toNat = k0 at *
    have U0 := Lib.hid (UK.new_ (w := w) 26 #[.int .u64 0, .int .i64 0] #[.int .u64 0, .int .i64 (k0 : Nat)] t)
    go_enter Try.func21, Try.ntmps21
    go_wp2_with fail
    refine (HN1.out _ U0.out.i).mono ?_
    rintro e w2 ⟨rfl, i2, g2⟩
    have U2 := Lib.hid (U0.out.num i2 g2)
    have y0 := clcell U2.out.c 0 rfl; have f0 := clsoft U2.out.c 0
    have U8 := Lib.hid (U2.out.set 0 (.int .u64 (N1 : Nat)))
    have x0 := clcell U8.out.c 0 rfl; have x1 := clcell U8.out.c 1 rfl
    clear i2 g2 U0 U2 HN1
    cases B with
    | true =>
      have hb := HRB.out.1 rfl
      have HR := Lib.hid (show Ending.returned (.tuple #[.agg #[.int .u64 0, .int .i64 0], .int .i64 2]) = .returned (.tuple #[wrv (dW (c :: t)), .int .i64 (dWC (c :: t))]) from by rw [(noW hb).1, (noW hb).2])
      obtain ⟨T9, hT9⟩ : ∃ T9, T9 = bs (encWS l9) := ⟨_, rfl⟩
      obtain ⟨C9, hC9⟩ : ∃ C9, C9 = encWC l9 := ⟨_, rfl⟩
      rw [← hT9, ← hC9] at HENC
      clear hT9 hC9 hb
      go_wp2_with fail
      refine (HENC.out _).mono ?_
      rintro e w9 ⟨rfl, g9⟩
      have U9 := Lib.hid (U8.out.kept g9)
      clear g9 U8 HENC YY
      have hz9 := U9.out.z; have hc9 := U9.out.c; have hi9 := U9.out.i
      have u0 := clcell hz9 0 rfl; have g0 := clsoft hz9 0
      have y0 := clcell hc9 0 rfl
      have u1 := clcell hz9 1 rfl; have g1 := clsoft hz9 1
      have y1 := clcell hc9 1 rfl
      have ib := ircell hi9 1 rfl
      have HZ9 := Lib.hid hz9
      clear hz9 hc9 hi9
      go_wp2_with fail
      have hb9 := (clset (clset HZ9.out 0 (.int .u64 0)) 1 (.int .i64 0))
      have z0 := clcell (v := .int .u64 0) hb9 0 rfl
      have z1 := clcell (v := .int .i64 0) hb9 1 rfl
      refine bodyPost_ret (v := .tuple #[.agg #[.int .u64 0, .int .i64 0], .int .i64 2]) (by simp [results, Try.results21, go_sem, z0, z1]) rfl ⟨HR.out, ?_⟩
      exact (clkset (clkset U9.out.k (Nat.le_refl _) 0 _) (Nat.le_refl _) 1 _)
    | false =>
    have hrd := HRB.out.2 rfl
    cases hik : isW (rdW (c :: t)) with
    | false =>
      have hb : bW (c :: t) = false := notW (fun h => by rw [hik] at h; cases h.1)
      have HR := Lib.hid (show Ending.returned (.tuple #[.agg #[.int .u64 0, .int .i64 0], .int .i64 2]) = .returned (.tuple #[wrv (dW (c :: t)), .int .i64 (dWC (c :: t))]) from by rw [(noW hb).1, (noW hb).2])
      rw [show encWC l9 = 2 from by rw [hrd]; unfold encWC; rw [hik]; rfl] at HENC
      generalize bs (encWS l9) = T9 at *
      clear hb hik hrd
      go_wp2_with fail
      refine (HENC.out _).mono ?_
      rintro e w9 ⟨rfl, g9⟩
      have U9 := Lib.hid (U8.out.kept g9)
      clear g9 U8 HENC YY
      have hz9 := U9.out.z; have hc9 := U9.out.c; have hi9 := U9.out.i
      have u0 := clcell hz9 0 rfl; have g0 := clsoft hz9 0
      have y0 := clcell hc9 0 rfl
      have u1 := clcell hz9 1 rfl; have g1 := clsoft hz9 1
      have y1 := clcell hc9 1 rfl
      have ib := ircell hi9 1 rfl
      have HZ9 := Lib.hid hz9
      clear hz9 hc9 hi9
      go_wp2_with fail
      have hb9 := (clset (clset HZ9.out 0 (.int .u64 0)) 1 (.int .i64 0))
      have z0 := clcell (v := .int .u64 0) hb9 0 rfl
      have z1 := clcell (v := .int .i64 0) hb9 1 rfl
      refine bodyPost_ret (v := .tuple #[.agg #[.int .u64 0, .int .i64 0], .int .i64 2]) (by simp [results, Try.results21, go_sem, z0, z1]) rfl ⟨HR.out, ?_⟩
      exact (clkset (clkset U9.out.k (Nat.le_refl _) 0 _) (Nat.le_refl _) 1 _)
    | true =>
    by_cases hen : encW (rdW (c :: t)) = c :: t
    · obtain ⟨e1, e2⟩ := yesW hik hen
      have HR := Lib.hid (show Ending.returned (.tuple #[.agg #[.int .u64 (N1 : Nat), .int .i64 (k0 : Nat)], .int .i64 0]) = .returned (.tuple #[wrv (dW (c :: t)), .int .i64 (dWC (c :: t))]) from by rw [e1, e2, ← hrd, HL9.out])
      rw [show encWC l9 = 0 from by rw [hrd]; unfold encWC; rw [hik]; rfl, show encWS l9 = c :: t from by rw [hrd]; unfold encWS; rw [hik]; exact hen] at HENC
      have hne : ((bs (c :: t)).toList != (bs (c :: t)).toList) = false := by simp
      generalize bs (c :: t) = S at *
      clear e1 e2 hen hik hrd
      go_wp2_with fail
      refine (HENC.out _).mono ?_
      rintro e w9 ⟨rfl, g9⟩
      have U9 := Lib.hid (U8.out.kept g9)
      clear g9 U8 HENC YY
      have hz9 := U9.out.z; have hc9 := U9.out.c; have hi9 := U9.out.i
      have u0 := clcell hz9 0 rfl; have g0 := clsoft hz9 0
      have y0 := clcell hc9 0 rfl
      have u1 := clcell hz9 1 rfl; have g1 := clsoft hz9 1
      have y1 := clcell hc9 1 rfl
      have ib := ircell hi9 1 rfl
      have HZ9 := Lib.hid hz9
      clear hz9 hc9 hi9
      go_wp2_with fail
      have hb9 := (clset (clset HZ9.out 0 (.int .u64 (N1 : Nat))) 1 (.int .i64 (k0 : Nat)))
      have z0 := clcell (v := .int .u64 (N1 : Nat)) hb9 0 rfl
      have z1 := clcell (v := .int .i64 (k0 : Nat)) hb9 1 rfl
      refine bodyPost_ret (v := .tuple #[.agg #[.int .u64 (N1 : Nat), .int .i64 (k0 : Nat)], .int .i64 0]) (by simp [results, Try.results21, go_sem, z0, z1]) rfl ⟨HR.out, ?_⟩
      exact (clkset (clkset U9.out.k (Nat.le_refl _) 0 _) (Nat.le_refl _) 1 _)
    · have hb : bW (c :: t) = false := notW (fun h => hen h.2)
      have HR := Lib.hid (show Ending.returned (.tuple #[.agg #[.int .u64 0, .int .i64 0], .int .i64 2]) = .returned (.tuple #[wrv (dW (c :: t)), .int .i64 (dWC (c :: t))]) from by rw [(noW hb).1, (noW hb).2])
      rw [show encWC l9 = 0 from by rw [hrd]; unfold encWC; rw [hik]; rfl, show encWS l9 = encW (rdW (c :: t)) from by rw [hrd]; unfold encWS; rw [hik]; rfl] at HENC
      have hne : ((bs (encW (rdW (c :: t)))).toList == (bs (c :: t)).toList) = false := by rw [clbs_eq]; simp [hen]
      have hne2 : ((bs (encW (rdW (c :: t)))).toList != (bs (c :: t)).toList) = true := by rw [bne, hne]; rfl
      generalize bs (encW (rdW (c :: t))) = T9 at *
      generalize bs (c :: t) = S at *
      clear hb hen hik hrd
      go_wp2_with fail
      refine (HENC.out _).mono ?_
      rintro e w9 ⟨rfl, g9⟩
      have U9 := Lib.hid (U8.out.kept g9)
      clear g9 U8 HENC YY
      have hz9 := U9.out.z; have hc9 := U9.out.c; have hi9 := U9.out.i
      have u0 := clcell hz9 0 rfl; have g0 := clsoft hz9 0
      have y0 := clcell hc9 0 rfl
      have u1 := clcell hz9 1 rfl; have g1 := clsoft hz9 1
      have y1 := clcell hc9 1 rfl
      have ib := ircell hi9 1 rfl
      have HZ9 := Lib.hid hz9
      clear hz9 hc9 hi9
      go_wp2_with fail
      have hb9 := (clset (clset HZ9.out 0 (.int .u64 0)) 1 (.int .i64 0))
      have z0 := clcell (v := .int .u64 0) hb9 0 rfl
      have z1 := clcell (v := .int .i64 0) hb9 1 rfl
      refine bodyPost_ret (v := .tuple #[.agg #[.int .u64 0, .int .i64 0], .int .i64 2]) (by simp [results, Try.results21, go_sem, z0, z1]) rfl ⟨HR.out, ?_⟩
      exact (clkset (clkset U9.out.k (Nat.le_refl _) 0 _) (Nat.le_refl _) 1 _)
end Go.Proofs.Ytdmnmbomijnjeaa
