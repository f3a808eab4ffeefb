/-
  What the document's own Make of layer 10 computes, for every list of keys.
-/
import Derived.Test.YtecjnebfhbdnaaaBloomRef
namespace Go.Proofs.Ytecjnebfhbdnaaa
open Go.ChangeShapes Go.WideShapes Go.ChangeAt Go.RowKit
set_option linter.unusedVariables false
set_option maxRecDepth 100000
set_option maxHeartbeats 4000000

theorem infoB : (Try.prog.info? 4).map (fun i => (i.zero, i.size, i.bytes)) = some (some (.bool false), 1, 1) := by kernel_rfl
/-- which bits are set, as cells -/
def bcl (M : Nat) (L : List Nat) : List Value := (List.range M).map fun c => Value.bool (decide (c ∈ L))
theorem bcl_nil (M : Nat) : bcl M [] = List.replicate M (.bool false) := by
  unfold bcl
  refine List.ext_getElem (by simp) fun j h1 h2 => by simp
theorem bcl_at (M : Nat) (L : List Nat) (c : Nat) (h : c < M) : (bcl M L).toArray[c]? = some (.bool (decide (c ∈ L))) := by
  unfold bcl
  rw [List.getElem?_toArray, List.getElem?_map, List.getElem?_range h]; rfl
theorem bcl_set (M : Nat) (L : List Nat) (x : Nat) : (bcl M L).toArray.setIfInBounds x (.bool true) = (bcl M (L ++ [x])).toArray := by
  rw [List.setIfInBounds_toArray]
  congr 1
  unfold bcl
  refine List.ext_getElem (by simp) fun j h1 h2 => ?_
  rw [List.getElem_set]
  by_cases h : x = j
  · subst h; simp
  · rw [if_neg h]
    simp [Ne.symm h]
def Rq (F : List UInt8) (i : Nat) (b : UInt8) : List UInt8 := F.take i ++ b :: List.replicate (F.length - i - 1) 0
def Ro (F : List UInt8) (i : Nat) : List UInt8 := F.take i ++ List.replicate (F.length - i) 0
theorem ro_zero (F : List UInt8) : Ro F 0 = List.replicate F.length 0 := by simp [Ro]
theorem ro_end (F : List UInt8) : Ro F F.length = F := by simp [Ro]
theorem rq_zero (F : List UInt8) (i : Nat) (h : i < F.length) : Rq F i 0 = Ro F i := by
  unfold Rq Ro
  rw [show F.length - i = (F.length - i - 1) + 1 by omega, List.replicate_succ]
  simp
theorem rq_self (F : List UInt8) (i : Nat) (h : i < F.length) : Rq F i (F.getD i 0) = Ro F (i + 1) := by
  unfold Rq Ro
  rw [Nm.take_snoc' _ i h, List.append_assoc, show F.length - i - 1 = F.length - (i + 1) by omega]; rfl
theorem rq_at (F : List UInt8) (i : Nat) (b : UInt8) (h : i < F.length) : (cellsOf (Rq F i b)).toArray[i]? = some (.int .u8 (b.toNat : Nat)) := by
  unfold cellsOf Rq
  rw [List.getElem?_toArray, List.getElem?_map, List.getElem?_append_right (by rw [List.length_take]; omega), List.length_take, show i - min i F.length = 0 by omega]
  rfl
theorem rq_set (F : List UInt8) (i : Nat) (b c : UInt8) (h : i < F.length) : (cellsOf (Rq F i b)).toArray.setIfInBounds i (.int .u8 (c.toNat : Nat)) = (cellsOf (Rq F i c)).toArray := by
  rw [List.setIfInBounds_toArray]
  congr 1
  unfold cellsOf Rq
  rw [List.map_append, List.map_append, List.set_append_right _ _ (by rw [List.length_map, List.length_take]; omega), List.length_map, List.length_take, show i - min i F.length = 0 by omega]
  rfl
theorem u8_of (n : Nat) (h : n < 256) : (UInt8.ofNat n).toNat = n := by
  rw [UInt8.toNat_ofNat']; omega
theorem mset_ne {w : World} {b b0 : Nat} {x : Option Obj} (h : w.heap[b]? = x) (hne : b ≠ b0) (j : Nat) (v : Value) : (w.setCell ⟨b0, j, none⟩ v).heap[b]? = x := by
  rw [Below.heap_setCell _ _ _ _ (by exact hne)]; exact h
theorem rbmmake_any (A : Option Addr) (c : Nat) (l : List (List UInt8)) (hl : l.length ≤ maxLen) (hx : ∀ x ∈ l, x.length ≤ maxLen) (w : World) (hA : Txs w A l) :
    Calls Try.prog 39 #[.slice A l.length c] w fun e w' => e = .returned (.tuple #[.string (bs (Bm.makeS l)), .int .i64 (Bm.makeE l)]) ∧ Kept w w' := by
  unfold maxLen at hl
  by_cases hbig : 1000 < l.length
  · have d : decide ((1000 : Int) < (l.length : Int)) = true := by simp; omega
    have e1 : Bm.makeS l = [] := by unfold Bm.makeS; rw [if_neg (by omega)]
    have e2 : Bm.makeE l = 4 := by unfold Bm.makeE; rw [if_neg (by omega)]
    rw [e1, e2]
    go_enter Try.func39, Try.ntmps39
    go_wp2_with fail
    go_ret2
    exact ⟨rfl, Kept.refl _⟩
  · have d : decide ((1000 : Int) < (l.length : Int)) = false := by simp; omega
    have e1 : Bm.makeS l = Bm.made l := by unfold Bm.makeS; rw [if_pos (by omega)]
    have e2 : Bm.makeE l = 0 := by unfold Bm.makeE; rw [if_pos (by omega)]
    rw [e1, e2]
    have hhas := fun c => Bm.made_has l c
    have hFl := Bm.made_len l
    generalize Bm.made l = F at *
    obtain ⟨N, hN⟩ : ∃ N, l.length + 1 = N := ⟨_, rfl⟩
    rw [hN] at hhas hFl
    obtain ⟨M, hM⟩ : ∃ M, 8 * N = M := ⟨_, rfl⟩
    rw [hM] at hhas
    have n1 : (l.length : Int) + 1 = (N : Int) := by omega
    have n2 : 8 * (N : Int) = (M : Int) := by omega
    have hNb : N ≤ 1001 := by omega
    have hMb : M ≤ 8008 := by omega
    have hmk1 := fun w => made_v 100 4 (.bool false) 1 Try.underlying100 infoB rfl .i64 M (by omega) (by omega) w
    rw [← bcl_nil] at hmk1
    have HN := Lib.hid hN; have HM := Lib.hid hM; have HX := Lib.hid hx; have HHAS := Lib.hid hhas; have HFL := Lib.hid hFl
    clear hN hM hx hhas hFl e1 e2
    have hnew := fun w => mblk_new w (bcl M []).toArray 4
    go_enter Try.func39, Try.ntmps39
    go_wp2_with fail
    go_loopw [6] (fun t wr => ∃ k : Nat, k ≤ l.length ∧ t = .int .i64 k ∧ wr.heap[w.heap.size]? = some (.cells (bcl M (Bm.all (l.take k) M)).toArray 4 (0, 0)) ∧ Kept w wr) (fun t _ => l.length - (intOf t).toNat)
    case atStart => exact ⟨0, Nat.zero_le _, rfl, hnew _, (Kept.refl _).alloc _⟩
    case round =>
      obtain ⟨k, hk, rfl, hblk, hkr⟩ := hrel
      by_cases hlt : k < l.length
      · have hx : l[k]? = some l[k] := List.getElem?_eq_getElem hlt
        have hxl := HX.out l[k] (List.getElem_mem hlt)
        have hnx : Bm.all (l.take (k + 1)) M = Bm.all (l.take k) M ++ Bm.bits l[k] M := by
          rw [List.take_add_one, hx]; exact Bm.all_snoc _ _ _
        obtain ⟨b, o, rfl, hb, hcell⟩ := (hA.kept hkr) k _ hx
        generalize l[k] = y at *
        have hbit := rbmbits_any (bs y) (by rw [fbs_size]; exact hxl) (M : Int) (by omega) (by omega)
        rw [bs_data, Int.toNat_natCast] at hbit
        have hlt4 := Bm.bits_lt y M
        have hl4 : (Bm.bits y M).length ≤ 4 := by rw [Bm.bits_len]; split <;> omega
        have hsz := (Array.getElem?_eq_some_iff.1 hblk).1
        have HNX := Lib.hid hnx; have HL4 := Lib.hid hlt4; have HBLK := Lib.hid hblk
        clear hnx hlt4 hx hblk
        generalize Bm.bits y M = L at *
        generalize Bm.all (l.take k) M = P at *
        go_wp2_with fail
        refine (hbit _).mono ?_
        rintro e w1 ⟨A1, c1, rfl, hI, hfar, g1⟩
        go_wp2_with fail
        go_loopw [8] (fun t wi => ∃ j : Nat, j ≤ L.length ∧ t = .int .i64 j ∧ wi.heap[w.heap.size]? = some (.cells (bcl M (P ++ L.take j)).toArray 4 (0, 0)) ∧ Ins wi A1 L ∧ Kept w wi) (fun t _ => L.length - (intOf t).toNat)
        case atStart => exact ⟨0, Nat.zero_le _, rfl, by rw [List.take_zero, List.append_nil]; exact mblk_kept HBLK.out g1, hI, kept_trans hkr g1⟩
        case round =>
          obtain ⟨j, hj, rfl, hblk, hIi, hki⟩ := hrel
          by_cases hj2 : j < L.length
          · have hx : L[j]? = some L[j] := List.getElem?_eq_getElem hj2
            have hmem : L[j] ∈ L := List.getElem_mem hj2
            have hnj : P ++ L.take (j + 1) = (P ++ L.take j) ++ [L[j]] := by rw [List.take_add_one, hx, List.append_assoc]; rfl
            generalize L[j] = x at hx hmem hnj
            have hx8 := HL4.out x hmem
            obtain ⟨b1, o1, rfl, hb1, hc1⟩ := hIi j x hx
            have hset := bcl_set M (P ++ L.take j) x
            rw [← hnj] at hset
            have hcx : ∃ v, wr.cell? ⟨w.heap.size, x, none⟩ = some v := ⟨_, (blk_cell hblk x).trans (bcl_at M _ x hx8)⟩
            obtain ⟨v0, hcx⟩ := hcx
            have hfx := blk_soft hblk x
            have hne := hfar b1 o1 rfl
            have hset2 := mset hblk x (.bool true)
            rw [hset] at hset2
            have hI2 := hIi.set w.heap.size x (.bool true) (fun b o e => by cases e; omega)
            have hk2 := mkept_set hki (a := ⟨w.heap.size, x, none⟩) (Nat.le_refl _) (.bool true)
            have HS2 := Lib.hid hset2; have HI2 := Lib.hid hI2; have HK2 := Lib.hid hk2
            clear hset2 hI2 hk2 hset hnj hblk
            go_wp2_with fail
            go_roundw
            case rel => exact ⟨j + 1, by omega, by go_num, HS2.out, HI2.out, HK2.out⟩
            case measure => simp [intOf]; omega
          · have e : j = L.length := by omega
            subst e
            rw [List.take_length] at hblk
            go_wp2_with fail
            go_roundw
            case rel => exact ⟨k + 1, by omega, by go_num, by rw [HNX.out]; exact hblk, hki⟩
            case measure => simp [intOf]; omega
      · have e : k = l.length := by omega
        subst e
        rw [List.take_length] at hblk
        have hmk2 := fun w => made_v 52 5 (.int .u8 0) 1 Try.underlying52 info5 rfl .i64 N (by omega) (by omega) w
        have hro : List.replicate N (Value.int .u8 0) = cellsOf (Ro F 0) := by
          rw [ro_zero, HFL.out]; unfold cellsOf; rw [List.map_replicate]; rfl
        rw [hro] at hmk2
        have hsb := (Array.getElem?_eq_some_iff.1 hblk).1
        have hblkO := mblk_new wr (cellsOf (Ro F 0)).toArray 5
        have hblkS := mblk_kept hblk ((Kept.refl wr).alloc (.cells (cellsOf (Ro F 0)).toArray 5))
        have hK0 := hkr.alloc (.cells (cellsOf (Ro F 0)).toArray 5)
        have hne : w.heap.size ≠ wr.heap.size := by omega
        have hge : w.heap.size ≤ wr.heap.size := by omega
        have HO := Lib.hid hblkO; have HS := Lib.hid hblkS; have HK := Lib.hid hK0
        clear hblkO hblkS hK0 hro hsb hblk
        generalize Bm.all l M = P at *
        go_wp2_with fail
        generalize (wr.alloc (.cells (cellsOf (Ro F 0)).toArray 5)) = W0 at *
        generalize wr.heap.size = ob at *
        generalize hsbw : w.heap.size = sb at *
        have HSB := Lib.hid hsbw; clear hsbw
        go_loopw [10] (fun t wr => ∃ i : Nat, i ≤ N ∧ t = .int .i64 i ∧ wr.heap[sb]? = some (.cells (bcl M P).toArray 4 (0, 0)) ∧ wr.heap[ob]? = some (.cells (cellsOf (Ro F i)).toArray 5 (0, 0)) ∧ Kept w wr) (fun t _ => N - (intOf t).toNat)
        case atStart => exact ⟨0, Nat.zero_le _, rfl, HS.out, HO.out, HK.out⟩
        case round =>
          clear HK HO HS
          obtain ⟨i, hi, rfl, hS, hO, hkr⟩ := hrel
          by_cases hi2 : i < N
          · have hiF : i < F.length := by rw [HFL.out]; exact hi2
            obtain ⟨v, hv⟩ : ∃ v, F.getD i 0 = v := ⟨_, rfl⟩
            have hvl := v.toNat_lt
            have hz := rq_zero F i hiF
            have he := rq_self F i hiF
            rw [hv] at he
            have hv8 : UInt8.ofNat (v.toNat / 2 ^ 8) = 0 := by
              rw [show v.toNat / 2 ^ 8 = 0 by omega]; rfl
            have hv0 : UInt8.ofNat (v.toNat / 2 ^ 0) = v := by rw [Nat.pow_zero, Nat.div_one, UInt8.ofNat_toNat]
            rw [← hz, ← hv8] at hO
            have HO := Lib.hid hO; have HS := Lib.hid hS; have HE := Lib.hid he; have HV0 := Lib.hid hv0
            have hbit : ∀ m, m < 8 → (v.toNat / 2 ^ m % 2 = 1 ↔ (8 * i + m) ∈ P) := fun m hm => by
              have h1 := HHAS.out (8 * i + m)
              unfold Bm.hasB at h1
              rw [show (8 * i + m) / 8 = i by omega, show (8 * i + m) % 8 = m by omega, hv, Nat.testBit_eq_decide_div_mod_eq] at h1
              exact decide_eq_decide.1 h1
            have HB := Lib.hid hbit
            clear hO hS hz he hv8 hv0 hbit hv
            go_wp2_with fail
            go_loopw [11] (fun t wr => ∃ (m : Nat) (z : Int), m ≤ 8 ∧ z = (m : Int) - 1 ∧ t = .int .i64 z ∧ wr.heap[sb]? = some (.cells (bcl M P).toArray 4 (0, 0)) ∧ wr.heap[ob]? = some (.cells (cellsOf (Rq F i (UInt8.ofNat (v.toNat / 2 ^ m)))).toArray 5 (0, 0)) ∧ Kept w wr) (fun t _ => (intOf t + 1).toNat)
            case atStart => exact ⟨8, 7, by omega, rfl, rfl, HS.out, HO.out, hkr⟩
            case round =>
              clear HO HS
              obtain ⟨m, z, hm, hz, rfl, hS, hO, hki⟩ := hrel
              cases m with
              | zero =>
                have dm : decide ((0 : Int) ≤ z) = false := by simp; omega
                clear hz
                rw [HV0.out, HE.out] at hO
                go_wp2_with fail
                go_roundw
                case rel => exact ⟨i + 1, by omega, by go_num, hS, hO, hki⟩
                case measure => simp [intOf]; omega
              | succ m =>
                have hzm : z = (m : Int) := by omega
                clear hz
                subst hzm
                obtain ⟨q, hq⟩ : ∃ q, v.toNat / 2 ^ (m + 1) = q := ⟨_, rfl⟩
                have hq2 : v.toNat / 2 ^ m / 2 = q := by rw [← hq, Nat.pow_succ, Nat.div_div_eq_div_mul]
                have hml : v.toNat / 2 ^ m < 256 := Nat.lt_of_le_of_lt (Nat.div_le_self _ _) hvl
                have hB := HB.out m (by omega)
                rw [hq] at hO
                obtain ⟨r, hr⟩ : ∃ r, v.toNat / 2 ^ m = r := ⟨_, rfl⟩
                rw [hr] at hq2 hml hB
                obtain ⟨b1, hb1⟩ : ∃ b1, UInt8.ofNat q = b1 := ⟨_, rfl⟩
                obtain ⟨b2, hb2⟩ : ∃ b2, UInt8.ofNat (2 * q) = b2 := ⟨_, rfl⟩
                obtain ⟨b3, hb3⟩ : ∃ b3, UInt8.ofNat r = b3 := ⟨_, rfl⟩
                have f1 : b1.toNat = q := by rw [← hb1]; exact u8_of q (by omega)
                have f2 : b2.toNat = 2 * q := by rw [← hb2]; exact u8_of (2 * q) (by omega)
                have f3 : b3.toNat = r := by rw [← hb3]; exact u8_of r (by omega)
                have hmul : IntKind.u8.wrap (((b1.toNat : Nat) : Int) * 2) = ((b2.toNat : Nat) : Int) := by rw [IntKind.wrap_u8, f1, f2]; omega
                rw [hb1] at hO
                have hcO := (blk_cell hO i).trans (rq_at F i b1 hiF)
                have hfO := blk_soft hO i
                have hO2 := mset hO i (.int .u8 (b2.toNat : Nat))
                rw [rq_set F i b1 b2 hiF] at hO2
                have hS2 := mset_ne hS hne i (.int .u8 (b2.toNat : Nat))
                have hk2 := mkept_set hki (a := ⟨ob, i, none⟩) (by rw [HSB.out]; exact hge) (.int .u8 (b2.toNat : Nat))
                obtain ⟨c, hc⟩ : ∃ c, 8 * i + m = c := ⟨_, rfl⟩
                have hci : 8 * (i : Int) + (m : Int) = (c : Int) := by omega
                have hcM : c < M := by have := HM.out; omega
                rw [hc] at hB
                have hcS := (blk_cell hS2 c).trans (bcl_at M P c hcM)
                have HR := Lib.hid hr
                clear hc hr hq hO hS
                by_cases hin : c ∈ P
                · have hr1 : r = 2 * q + 1 := by have := hB.2 hin; omega
                  have hadd : IntKind.u8.wrap (((b2.toNat : Nat) : Int) + 1) = ((b3.toNat : Nat) : Int) := by rw [IntKind.wrap_u8, f3, f2]; omega
                  rw [decide_eq_true hin] at hcS
                  have hcO2 := (blk_cell hO2 i).trans (rq_at F i b2 hiF)
                  have hfO2 := blk_soft hO2 i
                  have hO3 := mset hO2 i (.int .u8 (b3.toNat : Nat))
                  have e3 : Rq F i b3 = Rq F i (UInt8.ofNat (v.toNat / 2 ^ m)) := by rw [HR.out, hb3]
                  rw [rq_set F i b2 b3 hiF, e3] at hO3
                  have hS3 := mset_ne hS2 hne i (.int .u8 (b3.toNat : Nat))
                  have hk3 := mkept_set hk2 (a := ⟨ob, i, none⟩) (by rw [HSB.out]; exact hge) (.int .u8 (b3.toNat : Nat))
                  have HO3 := Lib.hid hO3; have HS3 := Lib.hid hS3; have HK3 := Lib.hid hk3
                  clear e3 hO3 hS3 hk3 hO2 hS2 hk2 hb1 hb2 hb3 f1 f2 f3 hB hin hq2 hml hr1
                  go_wp2_with fail
                  go_roundw
                  case rel => exact ⟨m, (m : Int) - 1, by omega, rfl, by go_num, HS3.out, HO3.out, HK3.out⟩
                  case measure => show ((m : Int) - 1 + 1).toNat < ((m : Int) + 1).toNat; omega
                · have hr1 : r = 2 * q := by
                    have h2 : ¬ (r % 2 = 1) := fun h => hin (hB.1 h)
                    omega
                  rw [decide_eq_false hin] at hcS
                  have e2 : Rq F i b2 = Rq F i (UInt8.ofNat (v.toNat / 2 ^ m)) := by rw [HR.out, hr1, hb2]
                  rw [e2] at hO2
                  have HO2 := Lib.hid hO2; have HS2 := Lib.hid hS2; have HK2 := Lib.hid hk2
                  clear e2 hO2 hS2 hk2 hb1 hb2 hb3 f1 f2 f3 hB hin hq2 hml hr1
                  go_wp2_with fail
                  go_roundw
                  case rel => exact ⟨m, (m : Int) - 1, by omega, rfl, by go_num, HS2.out, HO2.out, HK2.out⟩
                  case measure => show ((m : Int) - 1 + 1).toNat < ((m : Int) + 1).toNat; omega
          · have e : i = N := by omega
            subst e
            rw [show Ro F i = F by rw [← HFL.out]; exact ro_end F] at hO
            have hcv := conv_cells (w := wr) (b := ob) (cap := i) (n := i) F HFL.out.symm (fun j hj => by
              rw [blk_cell hO, List.getElem?_toArray]
              unfold cellsOf
              rw [List.getElem?_map, List.getElem?_eq_getElem hj]; rfl)
            go_wp2_with fail
            go_ret2
            exact ⟨rfl, hkr⟩
end Go.Proofs.Ytecjnebfhbdnaaa
