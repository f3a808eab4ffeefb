/-
  FrameBack of the statements of layer 4 returns true, whatever texts and bytes.
-/
import Derived.Test.YtbaekbddfnfbeaaFrameLawTakes
import Derived.Deep.Strs
namespace Go.Proofs.Ytbaekbddfnfbeaa
open Go.ChangeShapes Go.WideShapes Go.ChangeAt Go.RowKit
set_option linter.unusedVariables false
set_option maxHeartbeats 1000000

theorem fadd_at (b o i : Nat) : (⟨b, o, none⟩ : Addr).add i = ⟨b, o + i, none⟩ := by
  unfold Addr.add; split <;> simp_all
theorem faddr_at {w : World} {a : Addr} {v : Value} (h : w.cell? a = some v) : ∃ b o, a = ⟨b, o, none⟩ ∧ b < w.heap.size := by
  have hlt := World.block_lt_of_cell? w _ h
  obtain ⟨b, o, s⟩ := a
  cases s with
  | none => exact ⟨b, o, rfl, hlt⟩
  | some q =>
    unfold World.cell? at h
    split at h
    · simp at h
    · cases h
theorem fcellsStr : Try.prog.cellsOf 9 = 1 := by kernel_rfl
/-- a list of texts that comes in -/
theorem open_texts {H : Type} {enc : TypeId × Value → H} {w : World} {fuel : Nat} {cs : List Value} {x : DataW H × List MemPlace} (h : DataW.trod enc Try.prog w 0 (fun _ => true) true fuel 22 cs = some x) :
    ∃ (A : Option Addr) (cap : Nat) (l : List (List UInt8)), cs = [.slice A l.length cap] ∧ Txs w A l ∧ l.length ≤ maxLen ∧ (∀ x ∈ l, x.length ≤ maxLen) ∧ l.length ≤ cap ∧ cap ≤ maxLen := by
  rcases Deep.open_strs Try.underlying22 Try.underlying9 fcellsStr h with ⟨rfl, _⟩ | ⟨a, len, cap, m, S, rfl, _, hl, hm, hmm, _, hi⟩
  · exact ⟨none, 0, [], rfl, fun j x hx => by simp at hx, by simp, fun x hx => by simp at hx, by simp, by simp⟩
  · rw [if_pos rfl] at hmm
    have hlen : ((List.range len).map fun i => (S i).data.toList).length = len := by simp
    refine ⟨some a, cap, (List.range len).map fun i => (S i).data.toList, by rw [hlen], fun j x hx => ?_, by rw [hlen]; omega, fun x hx => ?_, by rw [hlen]; exact hl, hm⟩
    · have hj := (List.getElem?_eq_some_iff.1 hx).1
      rw [hlen] at hj
      have hc := (hi j (by omega)).1
      have h0 := (hi 0 (by omega)).1
      obtain ⟨b, o, rfl, hb⟩ := faddr_at (a := a) (by rw [show a.add 0 = a from by unfold Addr.add; simp] at h0; exact h0)
      rw [fadd_at] at hc
      refine ⟨b, o, rfl, hb, ?_⟩
      rw [hc]
      have : x = (S j).data.toList := by
        rw [List.getElem?_map, List.getElem?_range hj] at hx
        simpa using hx.symm
      rw [this, fbs_self]
    · rw [List.mem_map] at hx
      obtain ⟨i, hi', rfl⟩ := hx
      rw [toList_size]
      exact (hi i (by have := List.mem_range.1 hi'; omega)).2
theorem join_no (A : Option Addr) (c : Nat) (l : List (List UInt8)) (hl : l.length ≤ 2000) (hx : ∀ x ∈ l, x.length ≤ maxLen) (hf : ¬ Fr.Fit l) (w : World) (hA : Txs w A l) :
    Calls Try.prog 17 #[.slice A l.length c] w fun e w' => e = .returned (.tuple #[.string (bs []), .int .i64 5]) ∧ Kept w w' := by
  have := join_few A c l hl hx w hA
  obtain ⟨t, ht, h8⟩ : ∃ t, t ∈ l ∧ ¬ t.length ≤ 8000 := Classical.byContradiction fun h => hf fun t ht => Classical.byContradiction fun h' => h ⟨t, ht, h'⟩
  rw [(joinS_no ht h8).1, (joinS_no ht h8).2] at this
  exact this
set_option maxRecDepth 100000 in
theorem FrameBack_walk {w : World} (A : Option Addr) (c : Nat) (l : List (List UInt8)) (s : ByteArray) (hA : Txs w A l) (hl : l.length ≤ maxLen ∧ (∀ x ∈ l, x.length ≤ maxLen) ∧ l.length ≤ c ∧ c ≤ maxLen) (hs : s.size ≤ maxLen) :
    Calls Try.prog 4 #[.slice A l.length c, .string s] w fun e w' => e = .returned (.bool true) ∧ Kept w w' := by
  obtain ⟨hl1, hl2, _⟩ := hl
  have HX := Lib.hid hl2; clear hl2
  unfold maxLen at hs
  by_cases hbig : 8192 < s.size
  · have d : decide ((8192 : Int) < (s.size : Int)) = true := by simp; omega
    go_enter Try.func4, Try.ntmps4
    go_wp2_with fail
    refine (fawake_any _).mono ?_
    rintro e w1 ⟨rfl, g1⟩
    go_wp2_with fail
    go_ret
    exact ⟨rfl, g1⟩
  · have d : decide ((8192 : Int) < (s.size : Int)) = false := by simp; omega
    obtain ⟨m, r, hR⟩ := Fr.reads_some s.data.toList
    have hlen := hR.len
    rw [toList_size] at hlen
    have hall := all_any s (by omega) m r hR
    have hjl : (Fr.join m).length ≤ 16006000 := by omega
    have hext : s.extract 0 (Fr.join m).length = bs (Fr.join m) := bs_of (by simp [hR.eq])
    have hq : ((bs (Fr.join m)).toList == (s.extract 0 (Fr.join m).length).toList) = true := by rw [hext]; simp
    have hle : (Fr.join m).length ≤ s.size := by omega
    have d2 : decide ((s.size : Int) < ((Fr.join m).length : Int)) = false := by simp; omega
    have HR := Lib.hid hR; have HALL := Lib.hid hall; have HJ := Lib.hid hjl
    clear hR hall hjl hext hbig hlen
    go_enter Try.func4, Try.ntmps4
    go_wp2_with fail
    refine (fawake_any _).mono ?_
    rintro e w1 ⟨rfl, g1⟩
    go_wp2_with fail
    refine (flarge_any A c l hl1 HX.out _ (hA.kept g1)).mono ?_
    rintro e w2 ⟨B, rfl, hB, g2⟩
    have hA2 := (hA.kept g1).kept g2
    cases B with
    | true =>
      go_wp2_with fail
      go_ret
      exact ⟨rfl, kept_trans g1 g2⟩
    | false =>
      have h100 := hB rfl
      clear hB
      by_cases hf : Fr.Fit l
      · have hjm := Fr.join_most l hf
        have hjn := join_fit A c l hf (by omega) _ hA2
        have hal := all_any (bs (Fr.join l)) (by rw [fbs_size]; omega) l [] (Fr.reads_join hf)
        have d3 : (((Fr.join l).length : Int) != ((bs (Fr.join l)).size : Int)) = false := by rw [fbs_size]; simp
        have hbz : (bs (Fr.join l)).size ≤ 900000 := by rw [fbs_size]; omega
        have HAL := Lib.hid hal
        clear hal hjm hf
        go_wp2_with fail
        refine hjn.mono ?_
        rintro e w3 ⟨rfl, g3⟩
        have hA3 := hA2.kept g3
        clear hjn
        go_wp2_with fail
        refine (HAL.out _).mono ?_
        rintro e w4 ⟨A2, c2, rfl, hT, g4⟩
        go_wp2_with fail
        refine (ftexts_any A A2 c c2 l l hl1 hl1 _ (hA3.kept g4) hT).mono ?_
        rintro e w5 ⟨rfl, g5⟩
        rw [decide_eq_true rfl]
        go_wp2_with fail
        refine (HALL.out _).mono ?_
        rintro e W1 ⟨A3, c3, rfl, hT3, k1⟩
        go_wp2_with fail
        refine (join_fit A3 c3 m HR.out.fit HJ.out _ hT3).mono ?_
        rintro e W2 ⟨rfl, k2⟩
        go_wp2_with fail
        go_ret
        exact ⟨rfl, kept_trans g1 (kept_trans g2 (kept_trans (kept_trans g3 (kept_trans g4 g5)) (kept_trans k1 k2)))⟩
      · have hjn := join_no A c l (by omega) HX.out hf _ hA2
        have hE : ((bs []).toList == []) = true := by rw [Lib.toList_data]; rfl
        have hE2 : ((bs []).toList != []) = false := by rw [Lib.toList_data]; rfl
        clear hf
        go_wp2_with fail
        refine hjn.mono ?_
        rintro e w3 ⟨rfl, g3⟩
        clear hjn
        go_wp2_with fail
        refine (HALL.out _).mono ?_
        rintro e W1 ⟨A3, c3, rfl, hT3, k1⟩
        go_wp2_with fail
        refine (join_fit A3 c3 m HR.out.fit HJ.out _ hT3).mono ?_
        rintro e W2 ⟨rfl, k2⟩
        go_wp2_with fail
        go_ret
        exact ⟨rfl, kept_trans g1 (kept_trans g2 (kept_trans g3 (kept_trans k1 k2)))⟩
end Go.Proofs.Ytbaekbddfnfbeaa
