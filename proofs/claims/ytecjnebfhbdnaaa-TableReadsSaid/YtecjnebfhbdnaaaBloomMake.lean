/-
  What Make of package bloom computes, for every list of keys.
-/
import Derived.Test.YtecjnebfhbdnaaaBloomFns
import Derived.Test.YtecjnebfhbdnaaaPackFrame
import Derived.Laws.CopyOwn
import Derived.RegionTactic
import Derived.BigRegion
import Derived.Deep.CutRange
namespace Go.Proofs.Ytecjnebfhbdnaaa
open Go.ChangeShapes Go.WideShapes Go.ChangeAt Go.RowKit
set_option linter.unusedVariables false
set_option maxRecDepth 100000
set_option maxHeartbeats 1000000

theorem room_zero : Try.zeroCells95 = (cellsOf (Bm.fil 1001 [])).toArray := by kernel_rfl
theorem Ins.set {w : World} {A : Option Addr} {l : List Nat} (h : Ins w A l) (b0 j0 : Nat) (v : Value) (hb : ∀ b o, A = some ⟨b, o, none⟩ → b ≠ b0) : Ins (w.setCell ⟨b0, j0, none⟩ v) A l := fun j x hx => by
  obtain ⟨b, o, rfl, hb1, hc⟩ := h j x hx
  refine ⟨b, o, rfl, by simpa [World.setCell] using hb1, ?_⟩
  have hne := hb b o rfl
  rw [← hc]
  simp only [World.cell?]
  rw [Below.heap_setCell _ _ _ _ (by exact hne)]
theorem bshl (k : Nat) (h : k < 8) : (2 : Int) ^ k % 256 = (((UInt8.ofNat (2 ^ k)).toNat : Nat) : Int) := by
  rw [Bm.pow_byte k h]
  have : ∀ k : Fin 8, ((2 : Int) ^ k.val) % 256 = ((2 ^ k.val : Nat) : Int) := by decide
  exact this ⟨k, h⟩
theorem bor8 (a b : UInt8) : bits BinOp.or IntKind.u8 ((a.toNat : Nat) : Int) ((b.toNat : Nat) : Int) = (((a ||| b).toNat : Nat) : Int) := by
  rw [u8_or_nat _ _ a.toNat_lt b.toNat_lt, UInt8.toNat_or]
theorem cells_setB (R : List UInt8) (x : Nat) (h : x / 8 < R.length) : (cellsOf R).toArray.setIfInBounds (x / 8) (.int .u8 (((R.getD (x / 8) 0 ||| UInt8.ofNat (2 ^ (x % 8))).toNat : Nat) : Int)) = (cellsOf (Bm.setB R x)).toArray := by
  unfold Bm.setB cellsOf
  rw [List.setIfInBounds_toArray, List.map_set]
theorem mkept_set {w w' : World} (h : Kept w w') {a : Addr} (ha : w.heap.size ≤ a.block) (u : Value) : Kept w (w'.setCell a u) := Below.setCell h ha u
theorem mset {w : World} {b : Nat} {c : Array Value} {t : TypeId} {z : Nat × Nat} (h : w.heap[b]? = some (.cells c t z)) (j : Nat) (x : Value) : (w.setCell ⟨b, j, none⟩ x).heap[b]? = some (.cells (c.setIfInBounds j x) t z) := by
  simp [World.setCell, Array.getElem?_modify, h]
theorem mblk_kept {w w1 : World} {b : Nat} {c : Array Value} {t : TypeId} {z : Nat × Nat} (h : w.heap[b]? = some (.cells c t z)) (k : Kept w w1) : w1.heap[b]? = some (.cells c t z) := (Below.block k b (Array.getElem?_eq_some_iff.1 h).1).trans h
theorem mblk_new (w : World) (c : Array Value) (t : TypeId) : (w.alloc (.cells c t)).heap[w.heap.size]? = some (.cells c t (0, 0)) := by
  show (w.heap.push _)[w.heap.size]? = _
  exact Array.getElem?_push_size
theorem copy_room (w : World) (b n m : Nat) (R : List UInt8) (t : TypeId) (hblk : w.heap[b]? = some (.cells (cellsOf R).toArray t (0, 0))) (hm : m = R.length) (hn : n ≤ m) (ty : TypeId) :
    ∃ W', (Builtin.copy_ #[52, 52] ty #[.slice (some ⟨w.heap.size, 0, none⟩) n n, .slice (some ⟨b, 0, none⟩) m m]).run Try.prog (w.alloc (.cells (Array.replicate n (.int .u8 0)) 5)) = .ok (.int .i64 (n : Int)) W' ∧
      W'.heap[w.heap.size]? = some (.cells (cellsOf (R.take n)).toArray 5 (0, 0)) ∧ Kept w W' := by
  obtain ⟨i0, hi, hz0, hz1, hz2⟩ := info_parts info5
  have hb : b < w.heap.size := (Array.getElem?_eq_some_iff.1 hblk).1
  have hl : (cellsOf (R.take n)).length = n := by unfold cellsOf; rw [List.length_map, List.length_take]; omega
  have hg := mblk_new w (Array.replicate n (Value.int .u8 0)) 5
  have hrun := run_copy_row (P := Try.prog) (w.alloc (.cells (Array.replicate n (.int .u8 0)) 5)) 52 52 ty 5 w.heap.size 0 n n ⟨b, 0, none⟩ m m (Array.replicate n (.int .u8 0)) 5 (cellsOf (R.take n)) Try.underlying52 (by rw [hi]; simp [hz1]) hg (by rw [hl]; show n = min m n; omega) (fun j v hj => by
    have hjn : j < n := by have := (List.getElem?_eq_some_iff.1 hj).1; omega
    rw [addr_add, blk_cell (mblk_kept hblk ((Kept.refl _).alloc _)), List.getElem?_toArray, ← hj]
    unfold cellsOf
    rw [List.getElem?_map, List.getElem?_map, List.getElem?_take, if_pos hjn]) (by simp [hl]) (cellsOf_one _)
  rw [hl] at hrun
  refine ⟨_, hrun, ?_, below_setRow ((Kept.refl _).alloc _) (Nat.le_refl _) _⟩
  rw [setRow_heap _ _ _ _ _ _ hg]
  simp
theorem bmake_any (A : Option Addr) (c : Nat) (l : List (List UInt8)) (hl : l.length ≤ maxLen) (hx : ∀ x ∈ l, x.length ≤ maxLen) (w : World) (hA : Txs w A l) :
    Calls Try.prog 31 #[.slice A l.length c] w fun e w' => e = .returned (.tuple #[.string (bs (Bm.makeS l)), .int .i64 (Bm.makeE l)]) ∧ Kept w w' := by
  unfold maxLen at hl
  by_cases hbig : 1000 < l.length
  · have d : decide ((1000 : Int) < (l.length : Int)) = true := by simp; omega
    have e1 : Bm.makeS l = [] := by unfold Bm.makeS; rw [if_neg (by omega)]
    have e2 : Bm.makeE l = 4 := by unfold Bm.makeE; rw [if_neg (by omega)]
    rw [e1, e2]
    go_enter Try.func31, Try.ntmps31
    go_wp2_with fail
    go_ret2
    exact ⟨rfl, Kept.refl _⟩
  · have d : decide ((1000 : Int) < (l.length : Int)) = false := by simp; omega
    have e1 : Bm.makeS l = (Bm.fil 1001 (Bm.all l (8 * (l.length + 1)))).take (l.length + 1) := by
      unfold Bm.makeS Bm.made; rw [if_pos (by omega), Bm.fil_take _ _ _ (by omega) (Bm.all_lt _ _)]
    have e2 : Bm.makeE l = 0 := by unfold Bm.makeE; rw [if_pos (by omega)]
    rw [e1, e2]
    have hz := room_zero
    have hnew := fun w => mblk_new w Try.zeroCells95 95
    rw [hz] at hnew
    have HNEW := Lib.hid hnew
    have HX := Lib.hid hx
    clear hz hnew e1 e2 hx
    go_enter Try.func31, Try.ntmps31
    go_wp2_with fail
    go_loopw [19] (fun t wr => ∃ k : Nat, k ≤ l.length ∧ t = .int .i64 k ∧ wr.heap[w.heap.size]? = some (.cells (cellsOf (Bm.fil 1001 (Bm.all (l.take k) (8 * (l.length + 1))))).toArray 95 (0, 0)) ∧ Kept w wr) (fun t _ => l.length - (intOf t).toNat)
    case atStart => exact ⟨0, Nat.zero_le _, rfl, HNEW.out _, (Kept.refl _).alloc _⟩
    case round =>
      obtain ⟨k, hk, rfl, hblk, hkr⟩ := hrel
      by_cases hlt : k < l.length
      · have hx : l[k]? = some l[k] := List.getElem?_eq_getElem hlt
        have hxl := HX.out l[k] (List.getElem_mem hlt)
        have hnx : Bm.all (l.take (k + 1)) (8 * (l.length + 1)) = Bm.all (l.take k) (8 * (l.length + 1)) ++ Bm.bits l[k] (8 * (l.length + 1)) := by
          rw [List.take_add_one, hx]; exact Bm.all_snoc _ _ _
        obtain ⟨b, o, rfl, hb, hcell⟩ := (hA.kept hkr) k _ hx
        generalize l[k] = y at *
        have hbit := bbits_any (bs y) (by rw [fbs_size]; exact hxl) (8 * ((l.length : Int) + 1)) (by omega) (by omega)
        rw [bs_data, show (8 * ((l.length : Int) + 1)).toNat = 8 * (l.length + 1) by omega] at hbit
        have hm8 : ((l.length : Int) + 1) * 8 = 8 * ((l.length : Int) + 1) := by omega
        have hlt4 := Bm.bits_lt y (8 * (l.length + 1))
        have hl4 : (Bm.bits y (8 * (l.length + 1))).length ≤ 4 := by rw [Bm.bits_len]; split <;> omega
        have hsz := (Array.getElem?_eq_some_iff.1 hblk).1
        have HM8 := Lib.hid hm8; have HNX := Lib.hid hnx; have HL4 := Lib.hid hlt4; have HBLK := Lib.hid hblk
        clear hm8 hnx hlt4 hx hblk
        generalize Bm.bits y (8 * (l.length + 1)) = L at *
        generalize Bm.all (l.take k) (8 * (l.length + 1)) = P at *
        go_wp2_with fail
        rw [HM8.out]
        refine (hbit _).mono ?_
        rintro e w1 ⟨A1, c1, rfl, hI, hfar, g1⟩
        go_wp2_with fail
        go_loopw [28] (fun t wi => ∃ j : Nat, j ≤ L.length ∧ t = .int .i64 j ∧ wi.heap[w.heap.size]? = some (.cells (cellsOf (Bm.fil 1001 (P ++ L.take j))).toArray 95 (0, 0)) ∧ Ins wi A1 L ∧ Kept w wi) (fun t _ => L.length - (intOf t).toNat)
        case atStart => exact ⟨0, Nat.zero_le _, rfl, by rw [List.take_zero, List.append_nil]; exact mblk_kept HBLK.out g1, hI, kept_trans hkr g1⟩
        case round =>
          obtain ⟨j, hj, rfl, hblk, hIi, hki⟩ := hrel
          by_cases hj2 : j < L.length
          · have hx : L[j]? = some L[j] := List.getElem?_eq_getElem hj2
            have hmem : L[j] ∈ L := List.getElem_mem hj2
            have hnj : P ++ L.take (j + 1) = (P ++ L.take j) ++ [L[j]] := by rw [List.take_add_one, hx, List.append_assoc]; rfl
            generalize L[j] = x at hx hmem hnj
            have hx8 := HL4.out x hmem
            obtain ⟨b1, o1, rfl, hb1, hc1⟩ := hIi j x hx
            have hR := Bm.fil_len 1001 (P ++ L.take j)
            have hset := Bm.fil_snoc 1001 (P ++ L.take j) x
            rw [← hnj] at hset
            have hcs := cells_setB (Bm.fil 1001 (P ++ L.take j)) x (by omega)
            have hsh := bshl (x % 8) (by omega)
            have hor := bor8 ((Bm.fil 1001 (P ++ L.take j)).getD (x / 8) 0) (UInt8.ofNat (2 ^ (x % 8)))
            have hcx : wr.cell? ⟨w.heap.size, x / 8, none⟩ = some (.int .u8 (((Bm.fil 1001 (P ++ L.take j)).getD (x / 8) 0).toNat : Nat)) := by
              rw [blk_cell hblk]
              unfold cellsOf
              rw [List.getElem?_toArray, List.getElem?_map, List.getD_eq_getElem?_getD, List.getElem?_eq_getElem (by omega)]
              rfl
            have hfx := blk_soft hblk (x / 8)
            have hne := hfar b1 o1 rfl
            have hset2 := fun v => mset hblk (x / 8) v
            have hI2 := fun v => hIi.set w.heap.size (x / 8) v (fun b o e => by cases e; omega)
            have hk2 := fun v => mkept_set hki (a := ⟨w.heap.size, x / 8, none⟩) (Nat.le_refl _) v
            have HS2 := Lib.hid hset2; have HI2 := Lib.hid hI2; have HK2 := Lib.hid hk2; have HSET := Lib.hid hset; have HCS := Lib.hid hcs
            clear hset2 hI2 hk2 hset hcs hnj hblk hR
            generalize Bm.fil 1001 (P ++ L.take j) = R at *
            generalize UInt8.ofNat (2 ^ (x % 8)) = sh at *
            generalize R.getD (x / 8) 0 = rx at *
            generalize rx ||| sh = q at *
            go_wp2_with fail
            go_region
            go_wp2_with fail
            go_roundw
            case rel => exact ⟨j + 1, by omega, by go_num, (HS2.out _).trans (by rw [HCS.out, HSET.out]), (HI2.out _).kept ⟨rfl, rfl, rfl, Nat.le_refl _, fun _ _ => rfl⟩, kept_trans (HK2.out _) ⟨rfl, rfl, rfl, Nat.le_refl _, fun _ _ => rfl⟩⟩
            case measure => simp [intOf]; omega
          · have e : j = L.length := by omega
            subst e
            rw [List.take_length] at hblk
            go_wp2_with fail
            go_roundw
            case rel => exact ⟨k + 1, by omega, by go_num, by rw [HNX.out]; exact hblk, hki⟩
            case measure => simp [intOf]; omega
      · have e : k = l.length := by omega
        subst e
        rw [List.take_length] at hblk
        have hRl := Bm.fil_len 1001 (Bm.all l (8 * (l.length + 1)))
        have hFl : ((Bm.fil 1001 (Bm.all l (8 * (l.length + 1)))).take (l.length + 1)).length = l.length + 1 := by rw [List.length_take, hRl]; omega
        have hmk := fun w => made_v 52 5 (.int .u8 0) 1 Try.underlying52 info5 rfl .i64 (l.length + 1) (by omega) (by omega) w
        have hn1 : ((l.length + 1 : Nat) : Int) = (l.length : Int) + 1 := by omega
        rw [hn1] at hmk
        have HBLK := Lib.hid hblk; have HFL := Lib.hid hFl; have HRL := Lib.hid hRl
        clear hblk hRl hFl hn1
        generalize hR0 : Bm.fil 1001 (Bm.all l (8 * (l.length + 1))) = R at *
        have HR0 := Lib.hid hR0; clear hR0
        generalize hF : R.take (l.length + 1) = F at *
        have HF := Lib.hid hF; clear hF
        have hRm : l.length + 1 ≤ 1001 := by omega
        obtain ⟨W5, hcp, hW5, hk5⟩ := copy_room wr w.heap.size (l.length + 1) 1001 R 95 HBLK.out HRL.out.symm hRm 3
        rw [HF.out] at hW5
        have hcv := conv_cells (w := W5) (b := wr.heap.size) (cap := l.length + 1) (n := l.length + 1) F HFL.out.symm (fun j hj => by
          rw [blk_cell hW5, List.getElem?_toArray]
          unfold cellsOf
          rw [List.getElem?_map, List.getElem?_eq_getElem hj]; rfl)
        go_wp2_with fail
        go_ret2
        exact ⟨by rw [HR0.out, HF.out]; rfl, kept_trans hkr hk5⟩
end Go.Proofs.Ytecjnebfhbdnaaa
