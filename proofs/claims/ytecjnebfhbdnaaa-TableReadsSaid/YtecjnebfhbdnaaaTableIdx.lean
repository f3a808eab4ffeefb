/-
  Package table: the index read, a table cut by its foot.
-/
import Derived.Test.YtecjnebfhbdnaaaTableFns
namespace Go.Proofs.Ytecjnebfhbdnaaa
open Go.ChangeShapes Go.WideShapes Go.ChangeAt Go.RowKit
set_option linter.unusedVariables false
set_option maxRecDepth 100000
set_option maxHeartbeats 2000000

/-- places, one that is being written, places -/
def plX (L : List Tb.Pl) (x : List Value) (Z : List Tb.Pl) : Array Value := (plc L ++ (x ++ plc Z)).toArray
theorem plX_get {L : List Tb.Pl} {x : List Value} {Z : List Tb.Pl} {k i : Nat} (hk : L.length = k) {u : Value} (h : x[i]? = some u) : (plX L x Z)[k * 4 + i]? = some u := by
  have hi := (List.getElem?_eq_some_iff.1 h).1
  unfold plX
  rw [List.getElem?_toArray, List.getElem?_append_right (by rw [plc_len]; omega), plc_len, show k * 4 + i - L.length * 4 = i by omega, List.getElem?_append_left hi, h]
theorem plX_set {L : List Tb.Pl} {x : List Value} {Z : List Tb.Pl} {k i : Nat} (hk : L.length = k) (hi : i < x.length) (v : Value) : (plX L x Z).setIfInBounds (k * 4 + i) v = plX L (x.set i v) Z := by
  unfold plX
  rw [List.setIfInBounds_toArray, List.set_append_right _ _ (by rw [plc_len]; omega), plc_len, show k * 4 + i - L.length * 4 = i by omega, List.set_append_left _ _ hi]
theorem plX_is (L : List Tb.Pl) (p : Tb.Pl) (Z : List Tb.Pl) : (plc (L ++ p :: Z)).toArray = plX L (pcs p) Z := by
  unfold plX; rw [plc_app]; rfl
theorem plX_put {w : World} {b k i : Nat} {L : List Tb.Pl} {x : List Value} {Z : List Tb.Pl} {T : TypeId} (hk : L.length = k) (h : w.heap[b]? = some (.cells (plX L x Z) T (0, 0))) (hi : i < x.length) (v : Value) : (w.setCell ⟨b, k * 4 + i, none⟩ v).heap[b]? = some (.cells (plX L (x.set i v) Z) T (0, 0)) := by
  have := mset h (k * 4 + i) v
  rw [plX_set hk hi] at this
  exact this
theorem plX_cell {w : World} {b k i : Nat} {L : List Tb.Pl} {x : List Value} {Z : List Tb.Pl} {T : TypeId} (hk : L.length = k) (h : w.heap[b]? = some (.cells (plX L x Z) T (0, 0))) {u : Value} (hi : x[i]? = some u) : w.cell? ⟨b, k * 4 + i, none⟩ = some u := by
  rw [blk_cell h]; exact plX_get hk hi
theorem tread_any (s : List UInt8) (hs : s.length ≤ 1048576) (w : World) :
    Calls Try.prog 69 #[.string (bs s)] w fun e w' => ∃ A c, e = .returned (.slice A (Tb.rdIx s).length c) ∧ Pls w' A (Tb.rdIx s) ∧ Kept w w' := by
  have ht := take_any (bs s) (by rw [fbs_size]; unfold maxLen; omega)
  rw [bs_data] at ht
  have h1 := takeR_le s
  have h2 := takeN_lt s
  have HT := Lib.hid ht
  obtain ⟨M, hM⟩ : ∃ M, M = min (Nm.takeN s) 63 := ⟨_, rfl⟩
  have hm : min ((Nm.takeN s : Nat) : Int) 63 = (M : Int) := by omega
  have hM63 : M ≤ 63 := by omega
  have hI : Tb.rdIx s = Tb.rdPs M (Nm.takeR s) := by unfold Tb.rdIx; rw [hM]
  have hIl := Tb.rdPs_len M (Nm.takeR s)
  rw [← hI] at hIl
  have hR0 : (Nm.takeR s).length ≤ 1048576 := by omega
  generalize Tb.rdIx s = I at *
  generalize Nm.takeR s = R0 at *
  generalize Nm.takeN s = N0 at *
  have HI := Lib.hid hI
  have HIL := Lib.hid hIl
  have hmk := fun w => made_pl .u64 M hM63 w
  obtain ⟨Cz, hCz⟩ : ∃ Cz, Cz = (plc (List.replicate M zpl)).toArray := ⟨_, rfl⟩
  rw [← hCz] at hmk
  have HCZ := Lib.hid hCz
  clear ht h1 hM hI hs hIl hCz
  go_enter Try.func69, Try.ntmps69
  go_wp2_with fail
  refine (HT.out _).mono ?_
  rintro e w1 ⟨rfl, g1⟩
  have HG1 := Lib.hid g1
  clear g1 HT
  go_wp2_with fail
  obtain ⟨b, hb⟩ : ∃ b, b = w1.heap.size := ⟨_, rfl⟩
  rw [← hb]
  have HBQ := Lib.hid hb
  have hw1 : w.heap.size ≤ b := by rw [hb]; exact Below.size HG1.out
  clear hb
  go_loopw [4, 20] (fun r t wr => ∃ (k : Nat) (L : List Tb.Pl) (R : List UInt8), k ≤ M ∧ t = .int .i64 k ∧ r = .string (bs R) ∧ L.length = k ∧ Hid (I = L ++ Tb.rdPs (M - k) R) ∧ R.length ≤ 1048576 ∧ Hid (wr.heap[b]? = some (.cells (plc (L ++ List.replicate (M - k) zpl)).toArray 61 (0, 0))) ∧ Hid (Kept w wr)) (fun r t _ => M - (intOf t).toNat)
  case atStart => exact ⟨0, [], R0, Nat.zero_le _, rfl, rfl, rfl, Lib.hid (by rw [HI.out]; rfl), hR0, Lib.hid (by rw [HBQ.out, List.nil_append, Nat.sub_zero, ← HCZ.out]; exact malloc_new w1 _), Lib.hid (HG1.out.alloc _)⟩
  case round =>
    obtain ⟨k, L, R, hk, rfl, rfl, hLk, HL, hRl, HBK, HK⟩ := hrel
    by_cases hlt : k < M
    · obtain ⟨Z, hZ⟩ : ∃ Z, Z = List.replicate (M - k - 1) zpl := ⟨_, rfl⟩
      have hrep : List.replicate (M - k) zpl = zpl :: Z := by rw [hZ, ← List.replicate_succ]; congr 1; omega
      have hblk := HBK.out
      rw [hrep, plX_is] at hblk
      have htt := ttakeText_any R (by unfold maxLen; omega)
      have hle := Tb.tkT_le R
      obtain ⟨p, R', hp⟩ : ∃ p R', Tb.rdP R = (p, R') := ⟨_, _, rfl⟩
      have hle2 := (Tb.rdP_le R).2
      have e1 : p = ⟨(Tb.tkT R).1, Nm.takeN (Tb.tkT R).2, Nm.takeN (Nm.takeR (Tb.tkT R).2), Nm.takeN (Nm.takeR (Nm.takeR (Tb.tkT R).2))⟩ := (congrArg Prod.fst hp).symm
      have e2 : R' = Nm.takeR (Nm.takeR (Nm.takeR (Tb.tkT R).2)) := (congrArg Prod.snd hp).symm
      rw [hp] at hle2
      generalize (Tb.tkT R).1 = K at *
      generalize (Tb.tkT R).2 = R1 at *
      have t1 := take_any (bs R1) (by rw [fbs_size]; unfold maxLen; omega)
      have l1 := takeR_le R1; have n1 := takeN_lt R1
      have t2 := take_any (bs (Nm.takeR R1)) (by rw [fbs_size]; unfold maxLen; omega)
      have l2 := takeR_le (Nm.takeR R1); have n2 := takeN_lt (Nm.takeR R1)
      have t3 := take_any (bs (Nm.takeR (Nm.takeR R1))) (by rw [fbs_size]; unfold maxLen; omega)
      have n3 := takeN_lt (Nm.takeR (Nm.takeR R1))
      rw [bs_data] at t1 t2 t3
      rw [← e2] at t3
      generalize Nm.takeN R1 = N1 at *
      generalize Nm.takeR R1 = R2 at *
      generalize Nm.takeN R2 = N2 at *
      generalize Nm.takeR R2 = R3 at *
      generalize Nm.takeN R3 = N3 at *
      have HLN := Lib.hid (show I = (L ++ [p]) ++ Tb.rdPs (M - (k + 1)) R' by
        rw [HL.out, show M - k = (M - (k + 1)) + 1 by omega, Tb.rdPs, hp, List.append_assoc]; rfl)
      have HTT := Lib.hid htt; have H1 := Lib.hid t1; have H2 := Lib.hid t2; have H3 := Lib.hid t3
      have HB0 := Lib.hid hblk
      have HE1 := Lib.hid e1
      have hRl' : R'.length ≤ 1048576 := by simp only at hle2; omega
      have HZ := Lib.hid hZ
      clear htt t1 t2 t3 hblk e1 e2 hp hle hle2 l1 l2 HBK HL hZ hrep hm HI HCZ hmk
      go_wp2_with fail
      refine (HTT.out _).mono ?_
      rintro e w2 ⟨rfl, g2⟩
      have hb2 : w2.heap[b]? = some (.cells (plX L [.string ⟨#[]⟩, .int .u64 0, .int .u64 0, .int .u64 0] Z) 61 (0, 0)) := mblk_kept HB0.out g2
      have c2 : w2.cell? ⟨b, k * 4, none⟩ = _ := plX_cell (i := 0) hLk hb2 rfl
      have s2 := blk_soft hb2 (k * 4)
      have hb2' : (w2.setCell ⟨b, k * 4, none⟩ (.string (bs K))).heap[b]? = some (.cells (plX L [.string (bs K), .int .u64 0, .int .u64 0, .int .u64 0] Z) 61 (0, 0)) := plX_put (i := 0) hLk hb2 (by simp) _
      have HB2 := Lib.hid hb2'
      have HK2 := Lib.hid (mkept_set (kept_trans HK.out g2) (a := ⟨b, k * 4, none⟩) hw1 (.string (bs K)))
      clear g2 hb2 hb2' HB0 HTT
      go_wp2_with fail
      refine (H1.out _).mono ?_
      rintro e w3 ⟨rfl, g3⟩
      have hb3 : w3.heap[b]? = some (.cells (plX L [.string (bs K), .int .u64 0, .int .u64 0, .int .u64 0] Z) 61 (0, 0)) := mblk_kept HB2.out g3
      have c3 : w3.cell? ⟨b, k * 4 + 1, none⟩ = _ := plX_cell (i := 1) hLk hb3 rfl
      have s3 := blk_soft hb3 (k * 4 + 1)
      have hb3' : (w3.setCell ⟨b, k * 4 + 1, none⟩ (.int .u64 (N1 : Nat))).heap[b]? = some (.cells (plX L [.string (bs K), .int .u64 (N1 : Nat), .int .u64 0, .int .u64 0] Z) 61 (0, 0)) := plX_put (i := 1) hLk hb3 (by simp) _
      have HB3 := Lib.hid hb3'
      have HK3 := Lib.hid (mkept_set (kept_trans HK2.out g3) (a := ⟨b, k * 4 + 1, none⟩) hw1 (.int .u64 (N1 : Nat)))
      clear g3 hb3 hb3' HB2 HK2 H1 c2 s2
      go_wp2_with fail
      refine (H2.out _).mono ?_
      rintro e w4 ⟨rfl, g4⟩
      have hb4 : w4.heap[b]? = some (.cells (plX L [.string (bs K), .int .u64 (N1 : Nat), .int .u64 0, .int .u64 0] Z) 61 (0, 0)) := mblk_kept HB3.out g4
      have c4 : w4.cell? ⟨b, k * 4 + 2, none⟩ = _ := plX_cell (i := 2) hLk hb4 rfl
      have s4 := blk_soft hb4 (k * 4 + 2)
      have hb4' : (w4.setCell ⟨b, k * 4 + 2, none⟩ (.int .u64 (N2 : Nat))).heap[b]? = some (.cells (plX L [.string (bs K), .int .u64 (N1 : Nat), .int .u64 (N2 : Nat), .int .u64 0] Z) 61 (0, 0)) := plX_put (i := 2) hLk hb4 (by simp) _
      have HB4 := Lib.hid hb4'
      have HK4 := Lib.hid (mkept_set (kept_trans HK3.out g4) (a := ⟨b, k * 4 + 2, none⟩) hw1 (.int .u64 (N2 : Nat)))
      clear g4 hb4 hb4' HB3 HK3 H2 c3 s3
      go_wp2_with fail
      refine (H3.out _).mono ?_
      rintro e w5 ⟨rfl, g5⟩
      have hb5 : w5.heap[b]? = some (.cells (plX L [.string (bs K), .int .u64 (N1 : Nat), .int .u64 (N2 : Nat), .int .u64 0] Z) 61 (0, 0)) := mblk_kept HB4.out g5
      have c5 : w5.cell? ⟨b, k * 4 + 3, none⟩ = _ := plX_cell (i := 3) hLk hb5 rfl
      have s5 := blk_soft hb5 (k * 4 + 3)
      have hb5' : (w5.setCell ⟨b, k * 4 + 3, none⟩ (.int .u64 (N3 : Nat))).heap[b]? = some (.cells (plX L [.string (bs K), .int .u64 (N1 : Nat), .int .u64 (N2 : Nat), .int .u64 (N3 : Nat)] Z) 61 (0, 0)) := plX_put (i := 3) hLk hb5 (by simp) _
      have HB5 := Lib.hid hb5'
      have HK5 := Lib.hid (mkept_set (kept_trans HK4.out g5) (a := ⟨b, k * 4 + 3, none⟩) hw1 (.int .u64 (N3 : Nat)))
      clear g5 hb5 hb5' HB4 HK4 H3 c4 s4
      go_wp2_with fail
      go_roundw
      case rel =>
        refine ⟨k + 1, L ++ [p], R', by omega, by go_num, rfl, by rw [List.length_append, hLk]; rfl, HLN, hRl', ?_, HK5⟩
        refine Lib.hid (HB5.out.trans ?_)
        rw [List.append_assoc, show [p] ++ List.replicate (M - (k + 1)) zpl = p :: Z by rw [HZ.out]; rfl, plX_is, HE1.out]
        rfl
      case measure => simp [intOf]; omega
    · have e : k = M := by omega
      subst e
      have hfin := HBK.out
      rw [Nat.sub_self, List.replicate_zero, List.append_nil] at hfin
      have hIL : I = L := by have := HL.out; rw [Nat.sub_self, Tb.rdPs, List.append_nil] at this; exact this
      have HF := Lib.hid (pls_lit hfin rfl)
      clear hfin HBK HL HCZ hmk hm HI
      go_wp2_with fail
      go_ret
      exact ⟨some ⟨b, 0, none⟩, k, by rw [hIL, hLk]; rfl, by rw [hIL]; exact HF.out, HK.out⟩
/-- a table in memory -/
structure IsTb (w : World) (p : Nat) (t : Tb.Tv) : Prop where
  blk : ∃ A c, w.heap[p]? = some (.cells #[.string (bs t.blocks), .slice A t.index.length c, .string (bs t.filter), .int .i64 t.n] 88 (0, 0)) ∧ Pls w A t.index
  bl : t.blocks.length ≤ 1048576
  fl : t.filter.length ≤ 1048576
  il : t.index.length ≤ 63
  nm : ∀ p ∈ t.index, p.seq ≤ 18446744073709551615 ∧ p.beg ≤ 18446744073709551615 ∧ p.size ≤ 18446744073709551615
theorem IsTb.kept {w w' : World} {p : Nat} {t : Tb.Tv} (h : IsTb w p t) (k : Kept w w') : IsTb w' p t := by
  obtain ⟨⟨A, c, hb, hp⟩, h2, h3, h4, h5⟩ := h
  exact ⟨⟨A, c, mblk_kept hb k, hp.kept k⟩, h2, h3, h4, h5⟩
theorem rdPs_nm : ∀ (k : Nat) (s : List UInt8) (p : Tb.Pl), p ∈ Tb.rdPs k s → p.seq ≤ 18446744073709551615 ∧ p.beg ≤ 18446744073709551615 ∧ p.size ≤ 18446744073709551615
  | 0, s, p, h => by simp [Tb.rdPs] at h
  | k + 1, s, p, h => by
    rw [Tb.rdPs, List.mem_cons] at h
    rcases h with rfl | h
    · have n1 := takeN_lt (Tb.tkT s).2
      have n2 := takeN_lt (Nm.takeR (Tb.tkT s).2)
      have n3 := takeN_lt (Nm.takeR (Nm.takeR (Tb.tkT s).2))
      unfold Tb.rdP
      simp only
      omega
    · exact rdPs_nm k _ p h
theorem tkL_le (s : List UInt8) : (Tb.tkL s).1 ≤ 18446744073709551615 ∧ (Tb.tkL s).2.length ≤ s.length := by
  have := Nm.unl_lt (Tb.split s 8).1
  exact ⟨by show Nm.unl _ ≤ _; omega, (Tb.split_le s 8).2⟩
theorem wrap64_is (x : Int) : IntKind.i64.wrap x = wrap64 x := by
  rw [IntKind.wrap_i64]; unfold wrap64; omega
theorem tparts_any (s : List UInt8) (hs : s.length ≤ 1048576) (w : World) :
    Calls Try.prog 42 #[.string (bs s)] w fun e w' => ∃ p, e = .returned (.pointer (some ⟨p, 0, none⟩)) ∧ IsTb w' p (Tb.parts s) ∧ w.heap.size ≤ p ∧ Kept w w' := by
  have lA := Tb.splitE_le s 32
  have lI := tkL_le (Tb.pA s).2
  have lF := tkL_le (Tb.pI s).2
  have lE := tkL_le (Tb.pF s).2
  have lB := Tb.splitE_le (Tb.pA s).1 (Tb.pF s).1
  have lC := Tb.splitE_le (Tb.pB s).1 (Tb.pI s).1
  have hA := tsplitE_any s 32 (by unfold maxLen; omega) (by omega)
  rw [show Tb.splitE s 32 = Tb.pA s from rfl] at lA hA
  rw [show Tb.tkL (Tb.pA s).2 = Tb.pI s from rfl] at lI
  rw [show Tb.tkL (Tb.pI s).2 = Tb.pF s from rfl] at lF
  rw [show Tb.tkL (Tb.pF s).2 = Tb.pE s from rfl] at lE
  rw [show Tb.splitE (Tb.pA s).1 (Tb.pF s).1 = Tb.pB s from rfl] at lB
  rw [show Tb.splitE (Tb.pB s).1 (Tb.pI s).1 = Tb.pC s from rfl] at lC
  have hI := ttakeLong_any (Tb.pA s).2 (by unfold maxLen; omega)
  have hF := ttakeLong_any (Tb.pI s).2 (by unfold maxLen; omega)
  have hE := ttakeLong_any (Tb.pF s).2 (by unfold maxLen; omega)
  have hB := tsplitE_any (Tb.pA s).1 (Tb.pF s).1 (by unfold maxLen; omega) (by omega)
  have hC := tsplitE_any (Tb.pB s).1 (Tb.pI s).1 (by unfold maxLen; omega) (by omega)
  have hX := tread_any (Tb.pC s).2 (by omega)
  rw [show Tb.tkL (Tb.pA s).2 = Tb.pI s from rfl] at hI
  rw [show Tb.tkL (Tb.pI s).2 = Tb.pF s from rfl] at hF
  rw [show Tb.tkL (Tb.pF s).2 = Tb.pE s from rfl] at hE
  rw [show Tb.splitE (Tb.pA s).1 (Tb.pF s).1 = Tb.pB s from rfl] at hB
  rw [show Tb.splitE (Tb.pB s).1 (Tb.pI s).1 = Tb.pC s from rfl] at hC
  have hil := Tb.rdIx_len (Tb.pC s).2
  have hnm := rdPs_nm (min (Nm.takeN (Tb.pC s).2) 63) (Nm.takeR (Tb.pC s).2)
  rw [show Tb.rdPs (min (Nm.takeN (Tb.pC s).2) 63) (Nm.takeR (Tb.pC s).2) = Tb.rdIx (Tb.pC s).2 from rfl] at hnm
  have hP := Lib.hid (show Tb.parts s = ⟨(Tb.pC s).1, Tb.rdIx (Tb.pC s).2, (Tb.pB s).2, wrap64 ((Tb.pE s).1 : Int)⟩ from by unfold Tb.parts; rw [wrap64_is])
  have hz1 : (Tb.pC s).1.length ≤ 1048576 := by omega
  have hz2 : (Tb.pB s).2.length ≤ 1048576 := by omega
  generalize Tb.parts s = T at *
  generalize Tb.rdIx (Tb.pC s).2 = J at *
  generalize (Tb.pA s).1 = A1 at *
  generalize (Tb.pA s).2 = A2 at *
  generalize (Tb.pI s).1 = I1 at *
  generalize (Tb.pI s).2 = I2 at *
  generalize (Tb.pF s).1 = F1 at *
  generalize (Tb.pF s).2 = F2 at *
  generalize (Tb.pE s).1 = E1 at *
  generalize (Tb.pE s).2 = E2 at *
  generalize (Tb.pB s).1 = B1 at *
  generalize (Tb.pB s).2 = B2 at *
  generalize (Tb.pC s).1 = C1 at *
  generalize (Tb.pC s).2 = C2 at *
  have HA := Lib.hid hA; have HI := Lib.hid hI; have HF := Lib.hid hF; have HE := Lib.hid hE; have HB := Lib.hid hB; have HC := Lib.hid hC; have HX := Lib.hid hX
  have HIL := Lib.hid hil; have HNM := Lib.hid hnm; have HZ1 := Lib.hid hz1; have HZ2 := Lib.hid hz2
  clear hA hI hF hE hB hC hX hil hnm hz1 hz2 lA lI lF lE lB lC hs
  go_enter Try.func42, Try.ntmps42
  go_wp2_with fail
  refine (HA.out _).mono ?_
  rintro e w1 ⟨rfl, g1⟩
  go_wp2_with fail
  refine (HI.out _).mono ?_
  rintro e w2 ⟨rfl, g2⟩
  go_wp2_with fail
  refine (HF.out _).mono ?_
  rintro e w3 ⟨rfl, g3⟩
  go_wp2_with fail
  refine (HE.out _).mono ?_
  rintro e w4 ⟨rfl, g4⟩
  go_wp2_with fail
  refine (HB.out _).mono ?_
  rintro e w5 ⟨rfl, g5⟩
  go_wp2_with fail
  refine (HC.out _).mono ?_
  rintro e w6 ⟨rfl, g6⟩
  go_wp2_with fail
  refine (HX.out _).mono ?_
  rintro e w7 ⟨A, c, rfl, hp, g7⟩
  have G := Lib.hid (kept_trans g1 (kept_trans g2 (kept_trans g3 (kept_trans g4 (kept_trans g5 (kept_trans g6 g7))))))
  have HP7 := Lib.hid hp
  clear g1 g2 g3 g4 g5 g6 g7 hp
  go_wp2_with fail
  go_ret
  refine ⟨w7.heap.size, rfl, ?_, Below.size G.out, G.out.alloc _⟩
  rw [hP.out]
  exact ⟨⟨A, c, malloc_new w7 _, HP7.out.kept ((Kept.refl _).alloc _)⟩, HZ1.out, HZ2.out, HIL.out, HNM.out⟩
end Go.Proofs.Ytecjnebfhbdnaaa
