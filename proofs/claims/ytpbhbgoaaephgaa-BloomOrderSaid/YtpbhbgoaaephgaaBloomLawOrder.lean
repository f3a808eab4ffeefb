/-
  BloomOrder of the statements of layer 10 returns true, whatever keys and turn.
-/
import Derived.Test.YtpbhbgoaaephgaaBloomLawHas
namespace Go.Proofs.Ytpbhbgoaaephgaa
open Go.ChangeShapes Go.WideShapes Go.ChangeAt Go.RowKit
set_option linter.unusedVariables false
set_option maxRecDepth 100000
set_option maxHeartbeats 1000000

theorem bown_empty (w : World) : (w.alloc (.cells #[] 9)).ownsRow w.heap.size 9 1 (.slice (some ⟨w.heap.size, 0, none⟩) 0 0) 0 (txc []) :=
  World.ownsRow_made (base := w.heap.size) (e := 9) (size := 1) w #[] 0 (Nat.le_refl _) (by unfold maxLen; omega) rfl
/-- the keys in another order: the i-th is the one at (T - i) mod n -/
def turned (l : List (List UInt8)) (T k : Nat) : List (List UInt8) := (List.range k).map fun i => l.getD ((T - i) % l.length) []
theorem turned_len (l : List (List UInt8)) (T k : Nat) : (turned l T k).length = k := by simp [turned]
theorem turned_succ (l : List (List UInt8)) (T k : Nat) : turned l T (k + 1) = turned l T k ++ [l.getD ((T - k) % l.length) []] := by simp [turned, List.range_succ]
theorem turned_mem (l : List (List UInt8)) (T : Nat) (hT : l.length ≤ T + 1) (x : List UInt8) : x ∈ l ↔ x ∈ turned l T l.length := by
  constructor
  · intro h
    obtain ⟨j, hj, rfl⟩ := List.getElem_of_mem h
    unfold turned
    rw [List.mem_map]
    have hlt : (T - j) % l.length < l.length := Nat.mod_lt _ (by omega)
    refine ⟨(T - j) % l.length, List.mem_range.2 hlt, ?_⟩
    have h1 := Nat.div_add_mod (T - j) l.length
    have h2 : (T - (T - j) % l.length) = j + l.length * ((T - j) / l.length) := by omega
    rw [h2, Nat.add_mul_mod_self_left, Nat.mod_eq_of_lt hj, List.getD_eq_getElem?_getD, List.getElem?_eq_getElem hj]
    rfl
  · intro h
    unfold turned at h
    rw [List.mem_map] at h
    obtain ⟨i, hi, rfl⟩ := h
    have hi := List.mem_range.1 hi
    have hlt : (T - i) % l.length < l.length := Nat.mod_lt _ (by omega)
    rw [List.getD_eq_getElem?_getD, List.getElem?_eq_getElem hlt]
    exact List.getElem_mem hlt
theorem BloomOrder_walk {w : World} (A : Option Addr) (c : Nat) (l : List (List UInt8)) (turn : Int) (hA : Txs w A l) (hl : l.length ≤ maxLen ∧ (∀ x ∈ l, x.length ≤ maxLen) ∧ l.length ≤ c ∧ c ≤ maxLen) (ht : (Lit.int .u8 turn).wf = true) :
    Calls Try.prog 5 #[.slice A l.length c, .int .u8 turn] w fun e w' => e = .returned (.bool true) ∧ Kept w w' := by
  obtain ⟨hl1, hl2, _⟩ := hl
  have htb := bounds_u8 ht
  have hmk := bmake_any A c l hl1 hl2
  have hlg := bmlarge_any A c l hl1 hl2
  have HX := Lib.hid hl2
  have hlm : l.length ≤ 9223372036854775807 := by unfold maxLen at hl1; omega
  by_cases hbig : 1000 < l.length
  · have d : decide ((1000 : Int) < (l.length : Int)) = true := by simp; omega
    clear hmk
    go_enter Try.func5, Try.ntmps5
    go_wp2_with fail
    refine (bmawake_any _).mono ?_
    rintro e w1 ⟨rfl, g1⟩
    go_wp2_with fail
    refine (hlg _ (hA.kept g1)).mono ?_
    rintro e w2 ⟨B, rfl, g2⟩
    cases B with
    | true =>
      go_wp2_with fail
      go_ret
      exact ⟨rfl, kept_trans g1 g2⟩
    | false =>
      go_wp2_with fail
      go_ret
      exact ⟨rfl, kept_trans g1 g2⟩
  · have d : decide ((1000 : Int) < (l.length : Int)) = false := by simp; omega
    by_cases h0 : l.length = 0
    · have d0 : ((l.length : Int) == 0) = true := by rw [h0]; rfl
      clear hmk h0
      go_enter Try.func5, Try.ntmps5
      go_wp2_with fail
      refine (bmawake_any _).mono ?_
      rintro e w1 ⟨rfl, g1⟩
      go_wp2_with fail
      refine (hlg _ (hA.kept g1)).mono ?_
      rintro e w2 ⟨B, rfl, g2⟩
      cases B <;> (go_wp2_with fail; go_ret; exact ⟨rfl, kept_trans g1 g2⟩)
    · have d0 : ((l.length : Int) == 0) = false := by rw [beq_eq_false_iff_ne]; omega
      obtain ⟨e1, e2⟩ := makeS_few l (by omega)
      rw [e1, e2] at hmk
      obtain ⟨T, hT⟩ : ∃ T : Nat, (T : Int) = (l.length : Int) - 1 + turn := ⟨((l.length : Int) - 1 + turn).toNat, by omega⟩
      have hsame : Bm.made (turned l T l.length) = Bm.made l := Bm.made_same (turned_len _ _ _) (fun k => (turned_mem l T (by omega) k).symm)
      have hmk2 : ∀ A c w, Txs w A (turned l T l.length) → Calls Try.prog 14 #[.slice A l.length c] w fun e w' => e = .returned (.tuple #[.string (bs (Bm.made l)), .int .i64 0]) ∧ Kept w w' := fun A c w h => by
        have := bmake_any A c (turned l T l.length) (by rw [turned_len]; exact hl1) (fun x hx => hl2 x ((turned_mem l T (by omega) x).2 hx)) w h
        obtain ⟨f1, f2⟩ := makeS_few (turned l T l.length) (by rw [turned_len]; omega)
        rwa [f1, f2, hsame, turned_len] at this
      obtain ⟨i0, hi, hz0, hz1, hz2⟩ := info_parts infoS
      have HI := Lib.hid hi; have HZ0 := Lib.hid hz0; have HZ1 := Lib.hid hz1; have HZ2 := Lib.hid hz2
      have HMK := Lib.hid hmk; have HMK2 := Lib.hid hmk2; have HT := Lib.hid hT
      clear hi hz0 hz1 hz2 hmk hmk2 e1 e2 hsame hl2
      generalize bs (Bm.made l) = FB at *
      go_enter Try.func5, Try.ntmps5
      go_wp2_with fail
      refine (bmawake_any _).mono ?_
      rintro e w1 ⟨rfl, g1⟩
      go_wp2_with fail
      refine (hlg _ (hA.kept g1)).mono ?_
      rintro e w2 ⟨B, rfl, g2⟩
      have hA2 := (hA.kept g1).kept g2
      have G := kept_trans g1 g2
      cases B with
      | true =>
        go_wp2_with fail
        go_ret
        exact ⟨rfl, G⟩
      | false =>
        clear g1 g2 hlg hA
        have hTb : T ≤ 2000 := by omega
        clear hT
        go_wp2_with fail
        go_loopw [6, 31] (fun v t wr => ∃ k : Nat, k ≤ l.length ∧ t = .int .i64 k ∧ wr.ownsRow w2.heap.size 9 1 v k (txc (turned l T k)) ∧ Kept w2 wr) (fun _ t _ => l.length - (intOf t).toNat)
        case atStart => exact ⟨0, Nat.zero_le _, rfl, bown_empty w2, (Kept.refl w2).alloc _⟩
        case round =>
          obtain ⟨k, hk, rfl, hown, hkr⟩ := hrel
          by_cases hlt : k < l.length
          · obtain ⟨m, hm⟩ : ∃ m, m = (T - k) % l.length := ⟨_, rfl⟩
            have hml : m < l.length := by rw [hm]; exact Nat.mod_lt _ (by omega)
            have hx : l[m]? = some l[m] := List.getElem?_eq_getElem hml
            have hmem : l[m] ∈ l := List.getElem_mem hml
            have htk : txc (turned l T (k + 1)) = txc (turned l T k) ++ [.string (bs l[m])] := by
              rw [turned_succ, ← hm, List.getD_eq_getElem?_getD, hx]; unfold txc; rw [List.map_append]; rfl
            have HTK := Lib.hid htk
            have q1 : (l.length : Int) - 1 - k + turn = ((T - k : Nat) : Int) := by have := HT.out; omega
            have q2 : ((T - k : Nat) : Int) % (l.length : Int) = (m : Int) := by rw [hm]; exact (Int.natCast_emod _ _).symm
            have q3 : ((T - k : Nat) : Int).tmod (l.length : Int) = (m : Int) := by rw [Int.tmod_eq_emod_of_nonneg (by omega)]; exact q2
            generalize l[m] = x at hx hmem htk HTK
            obtain ⟨b, o, rfl, hb, hcell⟩ := (hA2.kept hkr) m x hx
            have hbase : w2.heap.size ≤ wr.heap.size := Below.size hkr
            have hwt : IntKind.i64.wrap turn = turn := by rw [IntKind.wrap_i64]; omega
            have hTk : T - k ≤ 2000 := by omega
            clear htk hx hmem hm
            generalize T - k = D at *
            have hown1 := hown.alloc (.cells #[Value.string (bs x)] 9)
            go_wp2_with (at_builtin; refine wpList_append_own _ rfl _ _ 22 rfl w2.heap.size 9 i0 (.string ByteArray.empty) 1 16 Try.underlying22 HI.out HZ0.out HZ1.out HZ2.out rfl (by decide) _ k (txc (turned l T k)) rfl hown1 ⟨wr.heap.size, 0, none⟩ 1 1 [.string (bs x)] rfl rfl (cell_new1 _ _ _) (by simp [Value.oneCell']) (by unfold maxLen; omega) (by omega) (by simp; omega) ?_)
            intro v' w3 hown2 hg _
            have g2 : Kept w2 w3 := Below.grown (hkr.alloc _) hg (by simp; omega) (fun b hb => (hown.lt b hb).1)
            go_wp2_with fail
            go_roundw
            case rel => exact ⟨k + 1, by omega, by go_num, by rw [HTK.out]; exact hown2, g2⟩
            case measure => simp [intOf]; omega
          · have e : k = l.length := by omega
            subst e
            obtain ⟨A9, c9, rfl, e9, hT9⟩ := txs_own hown
            clear e9 hown
            rw [turned_len]
            have hA9 := hA2.kept hkr
            go_wp2_with fail
            refine (HMK.out _ hA9).mono ?_
            rintro e w4 ⟨rfl, g4⟩
            go_wp2_with fail
            refine (HMK2.out _ _ _ (hT9.kept g4)).mono ?_
            rintro e w5 ⟨rfl, g5⟩
            go_wp2_with fail
            go_ret
            exact ⟨rfl, kept_trans (kept_trans (kept_trans G hkr) g4) g5⟩
end Go.Proofs.Ytpbhbgoaaephgaa
