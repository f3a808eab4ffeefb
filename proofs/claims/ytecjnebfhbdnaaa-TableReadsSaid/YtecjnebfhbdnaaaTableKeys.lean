/-
  Package table: a row's keys, each once.
-/
import Derived.Test.YtecjnebfhbdnaaaTableGet
import Derived.Test.YtecjnebfhbdnaaaLaysT
import Derived.Test.YtecjnebfhbdnaaaPackFrame
namespace Go.Proofs.Ytecjnebfhbdnaaa
open Go.ChangeShapes Go.WideShapes Go.ChangeAt Go.RowKit
set_option linter.unusedVariables false
set_option maxRecDepth 100000
set_option maxHeartbeats 2000000

namespace Tb
open Mm
theorem key_get {l : List Ent} {j : Nat} {x : Ent} (h : l[j]? = some x) : (l.map Ent.key).toArray[j]! = x.key := by
  have hj := (List.getElem?_eq_some_iff.1 h).1
  have e := (List.getElem?_eq_some_iff.1 h).2
  rw [getElem!_pos _ j (by simpa using hj)]
  simp [e]
theorem keysU_compact (l : List Ent) : ∀ m, m ≤ l.length → keysU l m = Lib.compactUpTo (l.map Ent.key).toArray m
  | 0, _ => by simp [keysU, Lib.compactUpTo]
  | m + 1, hm => by
    rw [keysU_succ, Lib.compactUpTo_succ, keysU_compact l m (by omega)]
    congr 1
    have hx : l[m]? = some l[m] := List.getElem?_eq_getElem (by omega)
    generalize l[m] = x at hx
    unfold kst
    rw [hx]
    simp only
    rw [key_get hx]
    unfold Lib.keeps
    rw [key_get hx]
    by_cases h0 : m = 0
    · subst h0; simp
    · have hy : l[m - 1]? = some l[m - 1] := List.getElem?_eq_getElem (by omega)
      generalize l[m - 1] = y at hy
      rw [key_get hy, Bk.keyAt_some hy]
      by_cases e : y.key = x.key
      · rw [e]; simp [h0]
      · have e2 : x.key ≠ y.key := fun q => e q.symm
        simp [e, e2]
theorem keys_compact (l : List Ent) : keys l = Lib.compact (l.map Ent.key) := by
  unfold keys Lib.compact
  rw [keysU_compact l _ (Nat.le_refl _), List.length_map]
theorem keys_le (l : List Ent) : (keys l).length ≤ l.length := keysU_len l l.length
end Tb
def sc (l : List (List UInt8)) : List Value := l.map fun t => .string (bs t)
theorem tinfoS : (Try.prog.info? 9).map (fun i => (i.zero, i.size, i.bytes)) = some (some (.string ByteArray.empty), 1, 16) := by kernel_rfl
theorem sc_rep (n : Nat) : sc (List.replicate n []) = List.replicate n (.string ByteArray.empty) := by unfold sc; rw [List.map_replicate]; rfl
theorem kept_row {w w1 : World} {b : Nat} (h : Kept w w1) (hb : w.heap.size ≤ b) (q : Nat) (d : Array (List UInt8)) : Kept w (Sort.putRow Go.Proofs.encStr (Sort.ahead w1 q) b 0 d) := by
  refine ⟨h.os, h.tape, h.output, by simpa using h.size, fun k hk => ?_⟩
  rw [← h.block k hk]
  show (Array.modify _ _ _)[k]? = _
  rw [Array.getElem?_modify, if_neg (by omega)]
  rfl
theorem tkeys_any {w : World} {A : Option Addr} {l : List Mm.Ent} (c : Nat) (h : Els w A l) (hl : l.length ≤ 500) :
    Calls Try.prog 32 #[.slice A l.length c] w fun e w' => ∃ B c', e = .returned (.slice B (Tb.keys l).length c') ∧ Txs w' B (Tb.keys l) ∧ Kept w w' := by
  obtain ⟨n, hn⟩ : ∃ n, n = l.length := ⟨_, rfl⟩
  rw [← hn]
  have hmk := fun w => made_v 69 9 (.string ByteArray.empty) 16 Try.underlying69 tinfoS rfl .i64 n (by omega) (by omega) w
  obtain ⟨Cz, hCz⟩ : ∃ Cz, Cz = (List.replicate n (Value.string ByteArray.empty)).toArray := ⟨_, rfl⟩
  rw [← hCz] at hmk
  have HCZ := Lib.hid hCz
  have HE := Lib.hid h
  have HN := Lib.hid hn
  have hl' : n ≤ 500 := by omega
  clear h hCz hn hl
  go_enter Try.func32, Try.ntmps32
  go_wp2_with fail
  obtain ⟨b, hb⟩ : ∃ b, b = w.heap.size := ⟨_, rfl⟩
  rw [← hb]
  have HBQ := Lib.hid hb
  have hbw : w.heap.size ≤ b := by omega
  clear hb
  go_loopw [11] (fun t wr => ∃ k : Nat, k ≤ n ∧ t = .int .i64 k ∧ Hid (wr.heap[b]? = some (.cells (sc ((l.map Mm.Ent.key).take k ++ List.replicate (n - k) [])).toArray 9 (0, 0))) ∧ Hid (Kept w wr)) (fun t _ => n - (intOf t).toNat)
  case atStart => exact ⟨0, Nat.zero_le _, rfl, Lib.hid (by rw [HBQ.out, List.take_zero, List.nil_append, Nat.sub_zero, sc_rep, ← HCZ.out]; exact malloc_new w _), Lib.hid ((Kept.refl w).alloc _)⟩
  case round =>
    obtain ⟨k, hk, rfl, HB, HK⟩ := hrel
    by_cases hlt : k < n
    · obtain ⟨x, hx⟩ : ∃ x, l[k]? = some x := ⟨_, List.getElem?_eq_getElem (by have := HN.out; omega)⟩
      obtain ⟨b1, o1, rfl, hb1, c0, c1, c2, c3⟩ := (HE.out.kept HK.out) k x hx
      have hnew : (sc ((l.map Mm.Ent.key).take k ++ List.replicate (n - k) [])).toArray.setIfInBounds k (.string (bs x.key)) = (sc ((l.map Mm.Ent.key).take (k + 1) ++ List.replicate (n - (k + 1)) [])).toArray := by
        have hlen : ((l.map Mm.Ent.key).take k).length = k := by rw [List.length_take, List.length_map]; have := HN.out; omega
        rw [List.setIfInBounds_toArray]
        congr 1
        unfold sc
        rw [List.map_append, List.map_append, List.set_append_right _ _ (by rw [List.length_map]; omega), List.length_map, hlen, Nat.sub_self, show n - k = (n - (k + 1)) + 1 by omega, List.replicate_succ, List.map_cons, List.set_cons_zero, List.take_add_one, List.getElem?_map, hx, List.map_append, List.append_assoc]
        rfl
      have hold : (sc ((l.map Mm.Ent.key).take k ++ List.replicate (n - k) [])).toArray[k]? = some (.string (bs [])) := by
        have hlen : ((l.map Mm.Ent.key).take k).length = k := by rw [List.length_take, List.length_map]; have := HN.out; omega
        rw [List.getElem?_toArray]
        unfold sc
        rw [List.getElem?_map, List.getElem?_append_right (by omega), hlen, Nat.sub_self, show n - k = (n - (k + 1)) + 1 by omega, List.replicate_succ]
        rfl
      generalize (sc ((l.map Mm.Ent.key).take k ++ List.replicate (n - k) [])).toArray = C at *
      have cb : wr.cell? ⟨b, k, none⟩ = some (.string (bs [])) := by rw [blk_cell HB.out]; exact hold
      have fb := blk_soft HB.out k
      have hbl := mheap_lt HB.out
      have hnb : b ≠ wr.heap.size := by omega
      have HNEW := Lib.hid hnew
      clear hx hnew hold hmk
      go_wp2_with fail
      go_roundw
      case rel =>
        refine ⟨k + 1, by omega, by go_num, Lib.hid ?_, Lib.hid ?_⟩
        · rw [← HNEW.out]
          exact mblk_kept (mset HB.out k _) ((Kept.refl _).alloc _)
        · exact (mkept_set HK.out (a := ⟨b, k, none⟩) hbw _).alloc _
      case measure => simp [intOf]; omega
    · have e : k = n := by omega
      subst e
      have hB := HB.out
      rw [Nat.sub_self, List.replicate_zero, List.append_nil, List.take_of_length_le (by rw [List.length_map]; have := HN.out; omega)] at hB
      have hLen : (l.map Mm.Ent.key).length = k := by rw [List.length_map]; exact HN.out.symm
      have hH : Sort.Holds Go.Proofs.encStr wr b 0 (l.map Mm.Ent.key).toArray := fun j hj => by
        have hj' : j < l.length := by simpa using hj
        refine ⟨?_, ?_⟩
        · rw [Nat.zero_add, blk_cell hB, Tb.key_get (List.getElem?_eq_getElem hj')]
          simp [sc, hj']
          rfl
        · rw [Nat.zero_add]; exact blk_soft hB j
      have hcall := AnyG.slices_Compact_string Try.compactK b 0 k (l.map Mm.Ent.key) wr hH (by omega) (by omega)
      rw [hLen, ← Tb.keys_compact l] at hcall
      have HC := Lib.hid hcall
      have HH := Lib.hid hH
      have HLE := Lib.hid (Tb.keys_le l)
      have HLN := Lib.hid hLen
      have hbl := mheap_lt hB
      clear hcall hB hH hLen HB hmk
      go_wp2_with fail
      refine HC.out.mono ?_
      rintro e w2 ⟨rfl, q, hw2⟩
      have HT := Lib.hid (show Txs w2 (some ⟨b, 0, none⟩) (Tb.keys l) from fun j y hy => by
        have hj := (List.getElem?_eq_some_iff.1 hy).1
        refine ⟨b, 0, rfl, by rw [hw2]; simpa using hbl, ?_⟩
        rw [hw2]
        have := Sort.cell?_putRow Go.Proofs.encStr (Sort.ahead wr q) b 0 _ (Tb.keys l ++ List.replicate (k - (Tb.keys l).length) []).toArray (Sort.holds_ahead _ _ q _ _ _ HH.out) (by have := HLE.out; have := HN.out; have := HLN.out; simp; omega) j (by simp; omega)
        rw [this, getElem!_pos _ j (by simp; omega)]
        have hg : (Tb.keys l ++ List.replicate (k - (Tb.keys l).length) []).toArray[j]'(by simp; omega) = y := by
          simp [List.getElem_append_left hj, (List.getElem?_eq_some_iff.1 hy).2]
        rw [hg]
        rfl)
      have HK2 := Lib.hid (show Kept w w2 by rw [hw2]; exact kept_row HK.out hbw q _)
      clear hw2
      go_wp2_with fail
      go_ret
      exact ⟨some ⟨b, 0, none⟩, k, rfl, HT.out, HK2.out⟩
end Go.Proofs.Ytecjnebfhbdnaaa
