/-
  Package col: a lock's, a write's and leases' bytes.
-/
import Derived.Test.YtdmnmbomijnjeaaColFns
namespace Go.Proofs.Ytdmnmbomijnjeaa
open Go.ChangeShapes Go.WideShapes Go.ChangeAt Go.RowKit
set_option linter.unusedVariables false
set_option maxRecDepth 100000
set_option maxHeartbeats 4000000
open Co
/-- one block stays as it is while memory is made -/
structure KX (w0 : World) (b : Nat) (c : Array Value) (t : TypeId) (W : World) : Prop where
  k : Kept w0 W
  bk : W.heap[b]? = some (.cells c t (0, 0))
theorem KX.kept {w0 : World} {b : Nat} {c : Array Value} {t : TypeId} {W W' : World} (h : KX w0 b c t W) (k : Kept W W') : KX w0 b c t W' := ⟨kept_trans h.k k, clhp h.bk k⟩
theorem KX.inv {w0 : World} {b : Nat} {c : Array Value} {t : TypeId} {f : FuncId} {a : Array Value} {v : Value} (h : ∀ W, Calls Try.prog f a W fun e w' => e = .returned v ∧ Kept W w') (W : World) (hi : KX w0 b c t W) :
    Calls Try.prog f a W fun e w' => e = .returned v ∧ KX w0 b c t w' :=
  (h W).mono fun e w' ⟨h1, h2⟩ => ⟨h1, hi.kept h2⟩
theorem KX.new (w : World) (c : Array Value) (t : TypeId) : KX w w.heap.size c t (w.alloc (.cells c t)) := ⟨(Kept.refl _).alloc _, clnew _ _⟩
theorem KX.drew {w0 : World} {b : Nat} {c : Array Value} {t : TypeId} {W : World} (h : KX w0 b c t W) : KX w0 b c t W.drew := h.kept (kept_drewN _ 1)
theorem KX.c2 {w0 : World} {b : Nat} {x y : Value} {t : TypeId} {W : World} (h : KX w0 b #[x, y] t W) : W.cell? ⟨b, 0, none⟩ = some x ∧ W.cell? ⟨b, 1, none⟩ = some y := ⟨clcell h.bk 0 rfl, clcell h.bk 1 rfl⟩
theorem KX.c3 {w0 : World} {b : Nat} {x y z : Value} {t : TypeId} {W : World} (h : KX w0 b #[x, y, z] t W) : W.cell? ⟨b, 0, none⟩ = some x ∧ W.cell? ⟨b, 1, none⟩ = some y ∧ W.cell? ⟨b, 2, none⟩ = some z := ⟨clcell h.bk 0 rfl, clcell h.bk 1 rfl, clcell h.bk 2 rfl⟩
theorem KX.c4 {w0 : World} {b : Nat} {x y z u : Value} {t : TypeId} {W : World} (h : KX w0 b #[x, y, z, u] t W) : W.cell? ⟨b, 0, none⟩ = some x ∧ W.cell? ⟨b, 1, none⟩ = some y ∧ W.cell? ⟨b, 2, none⟩ = some z ∧ W.cell? ⟨b, 3, none⟩ = some u := ⟨clcell h.bk 0 rfl, clcell h.bk 1 rfl, clcell h.bk 2 rfl, clcell h.bk 3 rfl⟩
def lkv (l : Lk) : Value := .agg #[.string (bs l.p), .int .u64 (l.s : Nat), .int .i64 l.k, .int .u64 (l.a : Nat)]
def wrv (l : Wr) : Value := .agg #[.int .u64 (l.s : Nat), .int .i64 l.k]
theorem cllock_any (l : Lk) (hp : l.p.length ≤ maxLen) (ha : l.a ≤ 18446744073709551615) (w : World) :
    Calls Try.prog 11 #[lkv l] w fun e w' => e = .returned (.tuple #[.string (bs (encKS l)), .int .i64 (encKC l)]) ∧ Kept w w' := by
  have HM := Lib.hid (clmayK_any l hp ha)
  have HF := Lib.hid (show isK l = false → bs (encKS l) = ⟨#[]⟩ ∧ encKC l = 2 from fun h => by unfold encKS encKC; rw [h]; exact ⟨rfl, rfl⟩)
  have HTr := Lib.hid (show isK l = true → encKS l = encK l ∧ encKC l = 0 from fun h => by unfold encKS encKC; rw [h]; exact ⟨rfl, rfl⟩)
  have HIK := Lib.hid (@isK_iff l)
  have HE := Lib.hid (show encK l = l.k.toNat.toUInt8 :: (Nm.short l.s ++ (Nm.short l.a ++ l.p)) from rfl)
  unfold lkv
  obtain ⟨p, s, k, a⟩ := l
  dsimp only at *
  generalize encKS ⟨p, s, k, a⟩ = rSt at *
  generalize encKC ⟨p, s, k, a⟩ = rCo at *
  generalize encK ⟨p, s, k, a⟩ = rEn at *
  generalize isK ⟨p, s, k, a⟩ = B at *
  have I0 := Lib.hid (KX.new w #[.string (bs p), .int .u64 (s : Nat), .int .i64 k, .int .u64 (a : Nat)] 24)
  cases B with
  | false =>
    obtain ⟨e1, e2⟩ := HF.out rfl
    rw [e1, e2]
    clear e1 e2
    go_enter Try.func11, Try.ntmps11
    go_wp2_with fail
    refine (HM.out _).mono ?_
    rintro e w1 ⟨rfl, g1⟩
    go_wp2_with fail
    go_ret2
    exact ⟨rfl, kept_trans ((Kept.refl _).alloc _) g1⟩
  | true =>
    obtain ⟨e1, e2⟩ := HTr.out rfl
    obtain ⟨⟨q1, q2⟩, ⟨q3, q4⟩, q5, q6⟩ := HIK.out.1 rfl
    rw [e1, e2]
    have hs1 := short_any (s : Int) (by omega) (by omega)
    have hs2 := short_any (a : Int) (by omega) (by omega)
    rw [Int.toNat_natCast] at hs1 hs2
    have hk := clkb_any k (by omega)
    have z1 : (bs [k.toNat.toUInt8]).size = 1 := by rw [clbs_size]; rfl
    have z2 : (bs (Nm.short s)).size ≤ 6 := by rw [clbs_size]; exact (sz_six q4).2
    have z3 : (bs (Nm.short a)).size ≤ 6 := by rw [clbs_size]; exact (sz_six q6).2
    have z4 : (bs p).size ≤ 24 := by rw [clbs_size]; exact q2
    have HRE := Lib.hid (show bs [k.toNat.toUInt8] ++ bs (Nm.short s) ++ bs (Nm.short a) ++ bs p = bs rEn from by
      rw [HE.out]; exact bs_of (by simp [bs, ByteArray.data_append]))
    generalize bs [k.toNat.toUInt8] = T1 at *
    generalize bs (Nm.short s) = T2 at *
    generalize bs (Nm.short a) = T3 at *
    generalize bs p = T4 at *
    have a1 : (T1 ++ T2).size ≤ 7 := by rw [ByteArray.size_append]; omega
    have a2 : (T1 ++ T2 ++ T3).size ≤ 13 := by rw [ByteArray.size_append]; omega
    have r1 : ∀ W, (Op.stringOp .add T1 T2).run Try.prog W = .ok (.string (T1 ++ T2)) W := fun W => run_string_add_sum W _ _ (by omega)
    have r2 : ∀ W, (Op.stringOp .add (T1 ++ T2) T3).run Try.prog W = .ok (.string (T1 ++ T2 ++ T3)) W := fun W => run_string_add_sum W _ _ (by omega)
    have r3 : ∀ W, (Op.stringOp .add (T1 ++ T2 ++ T3) T4).run Try.prog W = .ok (.string (T1 ++ T2 ++ T3 ++ T4)) W := fun W => run_string_add_sum W _ _ (by omega)
    have HS1 := Lib.hid (KX.inv (w0 := w) (b := w.heap.size) (c := #[.string T4, .int .u64 (s : Nat), .int .i64 k, .int .u64 (a : Nat)]) (t := 24) hs1)
    have HS2 := Lib.hid (KX.inv (w0 := w) (b := w.heap.size) (c := #[.string T4, .int .u64 (s : Nat), .int .i64 k, .int .u64 (a : Nat)]) (t := 24) hs2)
    have HK := Lib.hid (KX.inv (w0 := w) (b := w.heap.size) (c := #[.string T4, .int .u64 (s : Nat), .int .i64 k, .int .u64 (a : Nat)]) (t := 24) hk)
    clear e1 e2 hs1 hs2 hk a1 a2 q1 q2 q3 q4 q5 q6 z1 z2 z3 z4 HF HTr HIK HE
    go_enter Try.func11, Try.ntmps11
    go_wp2_with fail
    refine (HM.out _).mono ?_
    rintro e w1 ⟨rfl, g1⟩
    have I1 := Lib.hid ((I0.out.kept g1).drew)
    clear g1 I0
    go_upto_region 3 with fail
    go_region_held3 (fun w' => w'.cell? ⟨w.heap.size, 0, none⟩ = some (.string T4) ∧ w'.cell? ⟨w.heap.size, 1, none⟩ = some (.int .u64 (s : Nat)) ∧ w'.cell? ⟨w.heap.size, 2, none⟩ = some (.int .i64 k) ∧ w'.cell? ⟨w.heap.size, 3, none⟩ = some (.int .u64 (a : Nat))) (first | exact KX.c4 (by assumption) | exact KX.c4 I1.out)
      (first
      | (go_at_call_of 27 (Value.int .u64 (s : Int)); refine (HS1.out _ (by first | assumption | exact I1.out)).mono ?_; rintro e w6 ⟨rfl, i6⟩)
      | (go_at_call_of 27 (Value.int .u64 (a : Int)); refine (HS2.out _ (by first | assumption | exact I1.out)).mono ?_; rintro e w6 ⟨rfl, i6⟩)
      | (go_at_call 26; refine (HK.out _ (by first | assumption | exact I1.out)).mono ?_; rintro e w6 ⟨rfl, i6⟩))
    all_goals
      have hk6 := i6.k
      clear i6 HS1 HS2 HK I1 r1 r2 r3
      go_wp2_with fail
      go_ret2
      exact ⟨by rw [HRE.out] <;> rfl, hk6⟩
theorem clwrite_any (l : Wr) (w : World) :
    Calls Try.prog 13 #[wrv l] w fun e w' => e = .returned (.tuple #[.string (bs (encWS l)), .int .i64 (encWC l)]) ∧ Kept w w' := by
  have HM := Lib.hid (clmayW_any l)
  have HF := Lib.hid (show isW l = false → bs (encWS l) = ⟨#[]⟩ ∧ encWC l = 2 from fun h => by unfold encWS encWC; rw [h]; exact ⟨rfl, rfl⟩)
  have HTr := Lib.hid (show isW l = true → encWS l = encW l ∧ encWC l = 0 from fun h => by unfold encWS encWC; rw [h]; exact ⟨rfl, rfl⟩)
  have HIK := Lib.hid (@isW_iff l)
  have HE := Lib.hid (show encW l = l.k.toNat.toUInt8 :: Nm.short l.s from rfl)
  unfold wrv
  obtain ⟨s, k⟩ := l
  dsimp only at *
  generalize encWS ⟨s, k⟩ = rSt at *
  generalize encWC ⟨s, k⟩ = rCo at *
  generalize encW ⟨s, k⟩ = rEn at *
  generalize isW ⟨s, k⟩ = B at *
  have I0 := Lib.hid (KX.new w #[.int .u64 (s : Nat), .int .i64 k] 26)
  cases B with
  | false =>
    obtain ⟨e1, e2⟩ := HF.out rfl
    rw [e1, e2]
    clear e1 e2
    go_enter Try.func13, Try.ntmps13
    go_wp2_with fail
    refine (HM.out _).mono ?_
    rintro e w1 ⟨rfl, g1⟩
    go_wp2_with fail
    go_ret2
    exact ⟨rfl, kept_trans ((Kept.refl _).alloc _) g1⟩
  | true =>
    obtain ⟨e1, e2⟩ := HTr.out rfl
    obtain ⟨⟨q3, q4⟩, q5⟩ := HIK.out.1 rfl
    rw [e1, e2]
    have hs1 := short_any (s : Int) (by omega) (by omega)
    rw [Int.toNat_natCast] at hs1
    have hk := clkb_any k (by omega)
    have z1 : (bs [k.toNat.toUInt8]).size = 1 := by rw [clbs_size]; rfl
    have z2 : (bs (Nm.short s)).size ≤ 6 := by rw [clbs_size]; exact (sz_six q4).2
    have HRE := Lib.hid (show bs [k.toNat.toUInt8] ++ bs (Nm.short s) = bs rEn from by
      rw [HE.out]; exact bs_of (by simp [bs, ByteArray.data_append]))
    generalize bs [k.toNat.toUInt8] = T1 at *
    generalize bs (Nm.short s) = T2 at *
    have r1 : ∀ W, (Op.stringOp .add T1 T2).run Try.prog W = .ok (.string (T1 ++ T2)) W := fun W => run_string_add_sum W _ _ (by omega)
    have HS1 := Lib.hid (KX.inv (w0 := w) (b := w.heap.size) (c := #[.int .u64 (s : Nat), .int .i64 k]) (t := 26) hs1)
    have HK := Lib.hid (KX.inv (w0 := w) (b := w.heap.size) (c := #[.int .u64 (s : Nat), .int .i64 k]) (t := 26) hk)
    clear e1 e2 hs1 hk q3 q4 q5 z1 z2 HF HTr HIK HE
    go_enter Try.func13, Try.ntmps13
    go_wp2_with fail
    refine (HM.out _).mono ?_
    rintro e w1 ⟨rfl, g1⟩
    have I1 := Lib.hid ((I0.out.kept g1).drew)
    clear g1 I0
    go_upto_region 3 with fail
    go_region_held3 (fun w' => w'.cell? ⟨w.heap.size, 0, none⟩ = some (.int .u64 (s : Nat)) ∧ w'.cell? ⟨w.heap.size, 1, none⟩ = some (.int .i64 k)) (first | exact KX.c2 (by assumption) | exact KX.c2 I1.out)
      (first
      | (go_at_call_of 27 (Value.int .u64 (s : Int)); refine (HS1.out _ (by first | assumption | exact I1.out)).mono ?_; rintro e w6 ⟨rfl, i6⟩)
      | (go_at_call 26; refine (HK.out _ (by first | assumption | exact I1.out)).mono ?_; rintro e w6 ⟨rfl, i6⟩))
    all_goals
      have hk6 := i6.k
      clear i6 HS1 HK I1 r1
      go_wp2_with fail
      go_ret2
      exact ⟨by rw [HRE.out] <;> rfl, hk6⟩
/-- what stays while leases are written: the Builder holds L, and the lease's box stands -/
structure KL (n : Nat) (L : List UInt8) (w0 : World) (b : Nat) (x : Ls) (W : World) : Prop where
  bd : Bld n n L W
  k : Kept w0 W
  bk : W.heap[b]? = some (.cells #[.int .u64 (x.i : Nat), .int .u64 (x.t : Nat), .int .u64 (x.u : Nat)] 51 (0, 0))
theorem KL.kept {n : Nat} {L : List UInt8} {w0 : World} {b : Nat} {x : Ls} {W W' : World} (h : KL n L w0 b x W) (k : Kept W W') : KL n L w0 b x W' := ⟨h.bd.kept k, kept_trans h.k k, clhp h.bk k⟩
theorem KL.inv {n : Nat} {L : List UInt8} {w0 : World} {b : Nat} {x : Ls} {f : FuncId} {a : Array Value} {v : Value} (h : ∀ W, Calls Try.prog f a W fun e w' => e = .returned v ∧ Kept W w') (W : World) (hi : KL n L w0 b x W) :
    Calls Try.prog f a W fun e w' => e = .returned v ∧ KL n L w0 b x w' :=
  (h W).mono fun e w' ⟨h1, h2⟩ => ⟨h1, hi.kept h2⟩
theorem KL.cc {n : Nat} {L : List UInt8} {w0 : World} {b : Nat} {x : Ls} {W : World} (h : KL n L w0 b x W) : W.cell? ⟨b, 0, none⟩ = some (.int .u64 (x.i : Nat)) ∧ W.cell? ⟨b, 1, none⟩ = some (.int .u64 (x.t : Nat)) ∧ W.cell? ⟨b, 2, none⟩ = some (.int .u64 (x.u : Nat)) := ⟨clcell h.bk 0 rfl, clcell h.bk 1 rfl, clcell h.bk 2 rfl⟩
theorem encL_snoc {l : List Ls} {k : Nat} {x : Ls} (hx : l[k]? = some x) : encL (l.take (k + 1)) = encL (l.take k) ++ enc1 x := by
  rw [List.take_add_one, hx]
  show encL (l.take k ++ [x]) = _
  rw [encL_app]
  simp [encL]
theorem clleases_any {A : Option Addr} {l : List Ls} {w : World} (hA : Lss w A l) (hl : l.length ≤ maxLen) (c : Nat) :
    Calls Try.prog 15 #[.slice A l.length c] w fun e w' => e = .returned (.tuple #[.string (bs (encLS l)), .int .i64 (encLC l)]) ∧ Kept w w' := by
  have HA := Lib.hid (fun W (hW : Kept w W) => hA.kept hW)
  have HM := Lib.hid (clmayL_any hA hl c)
  have HF := Lib.hid (show isL l = false → bs (encLS l) = ⟨#[]⟩ ∧ encLC l = 2 from fun h => by unfold encLS encLC; rw [h]; exact ⟨rfl, rfl⟩)
  have HTr := Lib.hid (show isL l = true → encLS l = encL l ∧ encLC l = 0 from fun h => by unfold encLS encLC; rw [h]; exact ⟨rfl, rfl⟩)
  have HIL := Lib.hid (@encL_isL l)
  generalize encLS l = rSt at *
  generalize encLC l = rCo at *
  generalize isL l = B at *
  unfold maxLen at hl
  clear hA
  cases B with
  | false =>
    obtain ⟨e1, e2⟩ := HF.out rfl
    rw [e1, e2]
    clear e1 e2
    go_enter Try.func15, Try.ntmps15
    go_wp2_with fail
    refine HM.out.mono ?_
    rintro e w1 ⟨rfl, g1⟩
    go_wp2_with fail
    go_ret2
    exact ⟨rfl, g1⟩
  | true =>
    obtain ⟨e1, e2⟩ := HTr.out rfl
    obtain ⟨h5, hr⟩ := HIL.out rfl
    have HR := Lib.hid (fun k => encL_len (ris_take k hr))
    have HMm := Lib.hid (fun x hx => is1_iff.1 (ris_mem hr x hx).1)
    rw [e1, e2]
    clear e1 e2 hr HF HTr HIL
    go_enter Try.func15, Try.ntmps15
    go_wp2_with fail
    refine HM.out.mono ?_
    rintro e w1 ⟨rfl, g1⟩
    have G1 := Lib.hid g1
    clear g1 HM
    go_wp2_with fail
    go_loopw [12] (fun t wr => ∃ k : Nat, k ≤ l.length ∧ t = .int .i64 k ∧ Hid (Bld w1.heap.size w1.heap.size (encL (l.take k)) wr) ∧ Hid (Kept w1 wr) ∧ Hid (w1.heap.size + 1 ≤ wr.heap.size)) (fun t _ => l.length - (intOf t).toNat)
    case atStart => exact ⟨0, Nat.zero_le _, rfl, Lib.hid (bld_new w1), Lib.hid ((Kept.refl _).alloc _), Lib.hid (Nat.le_of_eq (World.size_alloc ..).symm)⟩
    case round =>
      obtain ⟨k, hk, rfl, HB, HK, HLW⟩ := hrel
      by_cases hlt : k < l.length
      · obtain ⟨x, hx⟩ : ∃ x, l[k]? = some x := ⟨_, List.getElem?_eq_getElem hlt⟩
        obtain ⟨b, o, rfl, hb, c0, c1, c2⟩ := HA.out _ (kept_trans G1.out HK.out) k x hx
        obtain ⟨⟨q1, q2⟩, ⟨q3, q4⟩, q5⟩ := HMm.out x (List.mem_of_getElem? hx)
        have HN := Lib.hid (encL_snoc hx)
        have hle := (HR.out k).2
        rw [List.length_take] at hle
        have hs1 := short_any (x.i : Int) (by omega) (by omega)
        have hs2 := short_any (x.t : Int) (by omega) (by omega)
        have hs3 := short_any (x.u : Int) (by omega) (by omega)
        rw [Int.toNat_natCast] at hs1 hs2 hs3
        have z1 : (bs (Nm.short x.i)).size ≤ 6 := by rw [clbs_size]; exact (sz_six q2).2
        have z2 : (bs (Nm.short x.t)).size ≤ 6 := by rw [clbs_size]; exact (sz_six q4).2
        have z3 : (bs (Nm.short x.u)).size ≤ 6 := by rw [clbs_size]; exact (sz_six q5).2
        have h1b : w1.heap.size < wr.heap.size := Nat.lt_of_lt_of_le (show w1.heap.size < w1.heap.size + 1 from Nat.lt_succ_self _) HLW.out
        generalize hE : encL (l.take k) = E at *
        have HS1 := Lib.hid (KL.inv (n := w1.heap.size) (L := E) (w0 := w1) (b := wr.heap.size) (x := x) hs1)
        have HS2 := Lib.hid (KL.inv (n := w1.heap.size) (L := E) (w0 := w1) (b := wr.heap.size) (x := x) hs2)
        have HS3 := Lib.hid (KL.inv (n := w1.heap.size) (L := E) (w0 := w1) (b := wr.heap.size) (x := x) hs3)
        have I1 := Lib.hid (show KL w1.heap.size E w1 wr.heap.size x (wr.alloc (.cells #[.int .u64 (x.i : Nat), .int .u64 (x.t : Nat), .int .u64 (x.u : Nat)] 51)).drew from
          ⟨(HB.out.kept ((Kept.refl _).alloc _)).kept (kept_drewN _ 1), kept_trans (HK.out.alloc _) (kept_drewN _ 1), clnew _ _⟩)
        have HRE := Lib.hid (show (bs (Nm.short x.i) ++ bs (Nm.short x.t) ++ bs (Nm.short x.u)).data.toList = enc1 x from by
          simp [bs, ByteArray.data_append, enc1])
        have a1 : (bs (Nm.short x.i) ++ bs (Nm.short x.t)).size ≤ 12 := by rw [ByteArray.size_append]; omega
        have a2 : (bs (Nm.short x.i) ++ bs (Nm.short x.t) ++ bs (Nm.short x.u)).size ≤ 18 := by rw [ByteArray.size_append]; omega
        have r1 : ∀ W, (Op.stringOp .add (bs (Nm.short x.i)) (bs (Nm.short x.t))).run Try.prog W = .ok (.string (bs (Nm.short x.i) ++ bs (Nm.short x.t))) W := fun W => run_string_add_sum W _ _ (by omega)
        have r2 : ∀ W, (Op.stringOp .add (bs (Nm.short x.i) ++ bs (Nm.short x.t)) (bs (Nm.short x.u))).run Try.prog W = .ok (.string (bs (Nm.short x.i) ++ bs (Nm.short x.t) ++ bs (Nm.short x.u))) W := fun W => run_string_add_sum W _ _ (by omega)
        have HW := Lib.hid (fun W (h : KL w1.heap.size E w1 wr.heap.size x W) => (bld_write2 w1.heap.size w1.heap.size E (bs (Nm.short x.i) ++ bs (Nm.short x.t) ++ bs (Nm.short x.u)) W h.bd (by omega) h.k.size).mono (fun e w' ⟨e1, e2, e3, e4⟩ => (show e = Ending.returned (.tuple #[.int .i64 (bs (Nm.short x.i) ++ bs (Nm.short x.t) ++ bs (Nm.short x.u)).size, .nilIface]) ∧ KL w1.heap.size (E ++ (bs (Nm.short x.i) ++ bs (Nm.short x.t) ++ bs (Nm.short x.u)).data.toList) w1 wr.heap.size x w' from ⟨e1, e2, Below.trans h.k e3, e4 _ _ _ _ (by have := h1b; omega) (by decide) h.bk⟩)))
        rw [HRE.out, ← HN.out] at HW
        have HZ := Lib.hid (show (bs (Nm.short x.i) ++ bs (Nm.short x.t) ++ bs (Nm.short x.u)).size ≤ 18 from a2)
        generalize bs (Nm.short x.i) = T1 at *
        generalize bs (Nm.short x.t) = T2 at *
        generalize bs (Nm.short x.u) = T3 at *
        have HCC := Lib.hid (fun W (h : KL w1.heap.size E w1 wr.heap.size x W) => h.cc)
        have HCD := Lib.hid (fun W (h : KL w1.heap.size (encL (l.take (k + 1))) w1 wr.heap.size x W) => h.cc)
        generalize x.i = xi at *
        generalize x.t = xt at *
        generalize x.u = xu at *
        clear hs1 hs2 hs3 z1 z2 z3 a1 a2 hx hE
        go_upto_region 7 with fail
        go_region_held3 (fun w' => w'.cell? ⟨wr.heap.size, 0, none⟩ = some (.int .u64 (xi : Nat)) ∧ w'.cell? ⟨wr.heap.size, 1, none⟩ = some (.int .u64 (xt : Nat)) ∧ w'.cell? ⟨wr.heap.size, 2, none⟩ = some (.int .u64 (xu : Nat))) (first | exact HCC.out _ (by assumption) | exact HCD.out _ (by assumption) | exact HCC.out _ I1.out)
          (first
          | (go_at_call 33; refine (HW.out _ (by first | assumption | exact I1.out)).mono ?_; rintro e w7 ⟨rfl, i7⟩)
          | (go_at_call_of 27 (Value.int .u64 (xi : Int)); refine (HS1.out _ (by first | assumption | exact I1.out)).mono ?_; rintro e w6 ⟨rfl, i6⟩)
          | (go_at_call_of 27 (Value.int .u64 (xt : Int)); refine (HS2.out _ (by first | assumption | exact I1.out)).mono ?_; rintro e w6 ⟨rfl, i6⟩)
          | (go_at_call_of 27 (Value.int .u64 (xu : Int)); refine (HS3.out _ (by first | assumption | exact I1.out)).mono ?_; rintro e w6 ⟨rfl, i6⟩))
        all_goals
          have HB9 := Lib.hid i7.bd
          have HK9 := Lib.hid i7.k
          have HL9 := Lib.hid (show w1.heap.size + 1 ≤ w7.heap.size from by have := cllt i7.bk; omega)
          clear i7 HS1 HS2 HS3 I1 r1 r2 HW HCC HCD
          go_wp2_with fail
          go_roundw
          case rel => exact ⟨k + 1, by omega, by go_num, HB9, HK9, HL9⟩
          case measure => simp [intOf]; omega
      · obtain rfl : k = l.length := by omega
        rw [List.take_length] at HB
        go_wp2_with fail
        refine (bld_string w1.heap.size w1.heap.size _ _ HB.out HK.out.size).mono ?_
        rintro e w6 ⟨rfl, g6⟩
        go_wp2_with fail
        go_ret2
        exact ⟨rfl, kept_trans G1.out (Below.trans HK.out g6)⟩
end Go.Proofs.Ytdmnmbomijnjeaa
